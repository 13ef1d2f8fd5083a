import PyProof.Rows.All
import Wide.All
import OpenK.AllK
import Wide.FinOn
import Lean
import PyProof.EqAt
import PyProof.EqKinds
import PyProof.TupleCall
import PySem.Challenge.RW_mixbench_k36_whole_parts_in_cuts
set_option Elab.async false
set_option linter.all false
set_option maxRecDepth 100000
namespace L2
open PySem PySem.Spec PyProof.Rows

abbrev Key := Sum Int Str
def keyIs : Key → Value → Bool
  | .inl k, v => Value.isInt k v
  | .inr x, v => Value.isStrOf x v
def keyH (w : World) : Key → Int
  | .inl k => hashInt k
  | .inr x => hashStr w x
theorem keyIs_shape : ∀ {k : Key} {v : Value}, keyIs k v = true → (∃ i t, k = Sum.inl i ∧ v = Value.int i t) ∨ (∃ x t, k = Sum.inr x ∧ v = Value.str x t)
  | .inl i, v, h => by
    obtain ⟨t, e⟩ := Value.isInt_shape (k := i) (v := v) h
    exact .inl ⟨i, t, rfl, e⟩
  | .inr x, v, h => by
    obtain ⟨t, e⟩ := Value.isStrOf_shape (x := x) (v := v) h
    exact .inr ⟨x, t, rfl, e⟩
theorem key_ll (a b : Int) : decide ((Sum.inl a : Key) = Sum.inl b) = (a == b) := by
  by_cases e : a = b
  · subst e; simp
  · have h : ¬ (Sum.inl a : Key) = Sum.inl b := fun q => e (Sum.inl.inj q)
    rw [decide_eq_false h]
    exact (beq_eq_false_iff_ne.mpr e).symm
theorem key_rr (a b : Str) : decide ((Sum.inr a : Key) = Sum.inr b) = decide (a = b) := by
  by_cases e : a = b
  · subst e; simp
  · have h : ¬ (Sum.inr a : Key) = Sum.inr b := fun q => e (Sum.inr.inj q)
    rw [decide_eq_false h, decide_eq_false e]
theorem key_lr (a : Int) (b : Str) : decide ((Sum.inl a : Key) = Sum.inr b) = false := decide_eq_false (fun q => nomatch q)
theorem key_rl (a : Str) (b : Int) : decide ((Sum.inr a : Key) = Sum.inl b) = false := decide_eq_false (fun q => nomatch q)

def mixKind (prog : Program) (w : World) : PySem.KeyKind prog w Key where
  is := keyIs
  hash := keyH w
  inj := fun v a b ha hb => by
    rcases keyIs_shape ha with ⟨i, t, rfl, rfl⟩ | ⟨x, t, rfl, rfl⟩
    · rcases keyIs_shape hb with ⟨j, u, rfl, e⟩ | ⟨y, u, rfl, e⟩
      · injection e with e1 _; rw [e1]
      · exact nomatch e
    · rcases keyIs_shape hb with ⟨j, u, rfl, e⟩ | ⟨y, u, rfl, e⟩
      · exact nomatch e
      · injection e with e1 _; rw [e1]
  byValue := fun k v h => by
    rcases keyIs_shape h with ⟨i, t, rfl, rfl⟩ | ⟨x, t, rfl, rfl⟩ <;> rfl
  pyHash := fun hv h => by
    rcases keyIs_shape hv with ⟨i, t, rfl, rfl⟩ | ⟨x, t, rfl, rfl⟩
    · exact wpAny_pyHash_int h
    · exact wpAny_pyHash_str h
  eqBool := fun hu hv h => by
    rcases keyIs_shape hu with ⟨i, t, rfl, rfl⟩ | ⟨x, t, rfl, rfl⟩
    · rcases keyIs_shape hv with ⟨j, u, rfl, rfl⟩ | ⟨y, u, rfl, rfl⟩
      · rw [key_ll] at h; exact wpAny_eqBool_int h
      · rw [key_lr] at h; exact SeqAt.EqAt.int_str i t y u _ _ _ _ h
    · rcases keyIs_shape hv with ⟨j, u, rfl, rfl⟩ | ⟨y, u, rfl, rfl⟩
      · rw [key_rl] at h; exact SeqAt.EqAt.str_int x t j u _ _ _ _ h
      · rw [key_rr] at h; exact wpAny_eqBool_str h
  «strs» := fun k x t v h => by
    rcases keyIs_shape h with ⟨i, u, rfl, e⟩ | ⟨y, u, rfl, e⟩
    · exact nomatch e
    · injection e with e1 _
      subst e1
      cases v <;> rfl

end L2

namespace L2
open PySem PySem.Spec PyProof.Rows

inductive V where
  | non | bl (b : Bool) | int (i : Int) | str (x : Str) | byt (b : Array UInt8) | flt (b : UInt64) | ref (a : Addr) | ty (n : String)
  deriving DecidableEq

def RelV : V → Value → Prop
  | .non, u => u = Value.none
  | .bl b, u => u = Value.bool b
  | .int i, u => ∃ t, u = Value.int i t
  | .str x, u => ∃ t, u = Value.str x t
  | .byt b, u => ∃ t, u = Value.bytes b t
  | .flt b, u => ∃ t, u = Value.float b t
  | .ref a, u => u = Value.ref a
  | .ty n, u => u = Value.type n

abbrev Vals : List V → List Value → Prop := Paired RelV
theorem Vals.length {xs : List V} {us : List Value} (r : Vals xs us) : xs.length = us.length := Paired.length r
theorem Vals.get : ∀ {xs : List V} {us : List Value} {i : Nat} {x : V}, Vals xs us → xs[i]? = some x → ∃ u, us[i]? = some u ∧ RelV x u
  | _, _, _, _, .nil, e => by simp at e
  | _, _, 0, _, .cons r _, e => by simp at e; subst e; exact ⟨_, rfl, r⟩
  | _, _, i + 1, x, .cons _ t, e => by
    obtain ⟨u, h1, h2⟩ := Vals.get (i := i) (x := x) t (by simpa using e)
    exact ⟨u, by simpa using h1, h2⟩
theorem Vals.set {x : V} {u : Value} (r : RelV x u) : ∀ {xs : List V} {us : List Value} (i : Nat), Vals xs us → Vals (xs.set i x) (us.set i u)
  | _, _, _, .nil => .nil
  | _, _, 0, .cons _ t => .cons r t
  | _, _, i + 1, .cons q t => .cons q (Vals.set r i t)
theorem Vals.append : ∀ {xs ys : List V} {us ws : List Value}, Vals xs us → Vals ys ws → Vals (xs ++ ys) (us ++ ws)
  | _, _, _, _, .nil, s => s
  | _, _, _, _, .cons r t, s => .cons r (Vals.append t s)
theorem Vals.take : ∀ {xs : List V} {us : List Value} (n : Nat), Vals xs us → Vals (xs.take n) (us.take n)
  | _, _, 0, _ => .nil
  | _, _, _ + 1, .nil => .nil
  | _, _, n + 1, .cons r t => .cons r (Vals.take n t)
theorem Vals.drop : ∀ {xs : List V} {us : List Value} (n : Nat), Vals xs us → Vals (xs.drop n) (us.drop n)
  | _, _, 0, r => r
  | _, _, _ + 1, .nil => .nil
  | _, _, n + 1, .cons _ t => Vals.drop n t
theorem Vals.none_of : ∀ {xs : List V} {us : List Value} {i : Nat}, Vals xs us → xs[i]? = none → us[i]? = none := fun {xs us i} r e => by
  have h1 := r.length
  have h2 : xs.length ≤ i := List.getElem?_eq_none_iff.mp e
  exact List.getElem?_eq_none_iff.mpr (by omega)

def RelO : Option V → Option Value → Prop
  | some v, some u => RelV v u
  | none, none => True
  | _, _ => False
def KV {κ : Type} : List (κ × V) → List (κ × Value) → Prop := Paired fun (p : κ × V) (q : κ × Value) => p.1 = q.1 ∧ RelV p.2 q.2

def kV : Key → V
  | .inl i => .int i
  | .inr x => .str x

inductive HO where
  /-- a list -/
  | lst (xs : List V)
  /-- a tuple (never changes) -/
  | tup (xs : List V)
  /-- a dict whose keys are ints and texts; one whose keys are tuples of ints and texts (the empty one is both) -/
  | dK (kvs : List (Key × V)) | dT (kvs : List (List Key × V))
  /-- a set of ints: its members, its size -/
  | set (S : Int → Bool) (n : Nat)
  /-- an instance of the class at C, its dict at dx, its attributes -/
  | ins (C dx : Addr) (fs : List (Str × V))
  /-- the dict of the instance at x -/
  | own (x : Addr)
  /-- the dict of an exception -/
  | xd (fs : List (Str × V))
  /-- a bound method, f of x -/
  | met (f x : Addr)
  /-- a range object lo, lo + 1, .. below hi -/
  | rng (lo hi : Int)
  /-- a thing that is known to the object (the script; a dict while a loop walks it): read, never written while it is so -/
  | frz (o : Obj) (u : HO)
  /-- a code object's table -/
  | tbl (ps : Array Value)
  /-- any other thing, by what is true of its one object (a def of one's own: SetO a S n := HO.ext fun h => ..) -/
  | ext (φ : Heap → Prop)

abbrev Hp := Addr → Option HO
def upd (H : Hp) (a : Addr) (o : HO) : Hp := fun b => if b = a then some o else H b
theorem upd_same {H : Hp} {a : Addr} {o : HO} : upd H a o a = some o := by unfold upd; rw [if_pos rfl]
theorem upd_ne {H : Hp} {a b : Addr} {o : HO} (h : b ≠ a) : upd H a o b = H b := by unfold upd; rw [if_neg h]
theorem ne_of_none {H : Hp} {a b : Addr} {o : HO} (h : H a = some o) (h' : H b = none) : a ≠ b := by
  intro e; subst e; rw [h] at h'; cases h'

section
variable (P : Program) (w : World)
def ObjOk (H : Hp) (h : Heap) (a : Addr) : HO → Prop
  | .lst xs => xs.length ≤ sizeLine ∧ ∃ (its : List Value) (n : Nat), Vals xs its ∧ h.get? a = some { cls := .type "list", data := .seq its.toArray n }
  | .tup xs => xs.length ≤ sizeLine ∧ ∃ its : List Value, Vals xs its ∧ IsTup h a its.toArray
  | .dK kvs => kvs.length ≤ sizeLine ∧ (a == sysModules) = false ∧ ∃ vs, KV kvs vs ∧ h.DictOf (mixKind P w) a vs
  | .dT kvs => kvs.length ≤ sizeLine ∧ (a == sysModules) = false ∧ ∃ xs : List (List Key × Addr × Value),
      Paired (fun (p : List Key × V) (q : List Key × Addr × Value) => p.1 = q.1 ∧ H q.2.1 = some (.tup (p.1.map kV)) ∧ RelV p.2 q.2.2) kvs xs ∧
      ∃ o es ep, h.get? a = some o ∧ o.ExactDict ∧ o.data = .dict es ep ∧ es.toList = xs.map (entryOfKey (tupleKind (mixKind P w))) ∧ (xs.map (·.1)).Nodup
  | .set S n => h.SetOf (intKind P w) a S n
  | .ins C dx fs => H dx = some (.own a) ∧ fs.length ≤ 1000 ∧ dx ≠ a ∧ h.get? a = some (PySem.W.instObj C dx) ∧
      ∃ mA, h.Ns1 dx mA ∧ (∀ f, RelO (fs.lookup f) (mA f)) ∧ PySem.Within mA (fs.map (·.1))
  | .own _ => ∃ o, h.get? a = some o
  | .xd fs => ∃ mA, h.Ns1 a mA ∧ ∀ f, RelO (fs.lookup f) (mA f)
  | .rng lo hi => ∃ t u v, h.get? a = some { cls := .type "range", data := .fields #[.int lo t, .int hi u, .int 1 v] }
  | .frz o u => h.get? a = some o ∧ ObjOk H h a u
  | .tbl ps => h.get? a = some { cls := .none, data := .fields ps }
  | .met f x => h.get? a = some (PySem.W.methodObj (.ref f) (.ref x))
  | .ext φ => φ h ∧ (∃ o, h.get? a = some o) ∧ ∀ h1 h2 : Heap, φ h1 → (∀ o, h1.get? a = some o → h2.get? a = some o) → φ h2
def HOk (H : Hp) (h : Heap) : Prop := ∀ a o, H a = some o → ObjOk P w H h a o
end

section
variable {P : Program} {w : World} {H H' : Hp} {h h' : Heap} {a : Addr} {o : HO}
theorem ObjOk.lt (x : ObjOk P w H h a o) : a < h.objs.size := by
  cases o with
  | lst xs => obtain ⟨_, _, _, _, e⟩ := x; exact Heap.lt_size e
  | tup xs => obtain ⟨_, _, _, p⟩ := x; exact p.lt
  | dK kvs => obtain ⟨_, _, _, _, o, _, _, e, _⟩ := x; exact Heap.lt_size e
  | dT kvs => obtain ⟨_, _, _, _, o, _, _, e, _⟩ := x; exact Heap.lt_size e
  | set S n => obtain ⟨o, _, _, _, e, _⟩ := x; exact Heap.lt_size e
  | ins C dx fs => obtain ⟨_, _, _, e, _⟩ := x; exact Heap.lt_size e
  | own y => obtain ⟨_, e⟩ := x; exact Heap.lt_size e
  | xd fs => obtain ⟨_, ⟨_, _, _, e, _⟩, _⟩ := x; exact Heap.lt_size e
  | rng lo hi => obtain ⟨_, _, _, e⟩ := x; exact Heap.lt_size e
  | frz ob u => obtain ⟨e, _⟩ := x; exact Heap.lt_size e
  | tbl ps => exact Heap.lt_size (show h.get? a = some _ from x)
  | met f y => exact Heap.lt_size (show h.get? a = some _ from x)
  | ext φ => obtain ⟨_, ⟨_, e⟩, _⟩ := x; exact Heap.lt_size e
theorem Paired.mapP {α β : Type} {F G : α → β → Prop} : ∀ {l₁ : List α} {l₂ : List β}, Paired F l₁ l₂ → (∀ a b, F a b → G a b) → Paired G l₁ l₂
  | _, _, .nil, _ => .nil
  | _, _, .cons r t, f => .cons (f _ _ r) (Paired.mapP t f)
theorem ObjOk.stay (x : ObjOk P w H h a o) (k : ∀ b u, (b = a ∨ H b = some (.own a)) → h.get? b = some u → h'.get? b = some u)
    (ho : ∀ b, H b = some (.own a) → H' b = some (.own a)) (ht : ∀ b xs, H b = some (.tup xs) → H' b = some (.tup xs)) : ObjOk P w H' h' a o := by
  induction o with
  | lst xs => obtain ⟨z, its, n, r, e⟩ := x; exact ⟨z, its, n, r, k _ _ (.inl rfl) e⟩
  | tup xs => obtain ⟨z, its, r, ob, e, c⟩ := x; exact ⟨z, its, r, ob, k _ _ (.inl rfl) e, c⟩
  | dK kvs => obtain ⟨z, y, vs, r, ob, es, ep, e, c⟩ := x; exact ⟨z, y, vs, r, ob, es, ep, k _ _ (.inl rfl) e, c⟩
  | dT kvs =>
    obtain ⟨z, y, xs, r, ob, es, ep, e, c⟩ := x
    exact ⟨z, y, xs, Paired.mapP r fun p q z => ⟨z.1, ht _ _ z.2.1, z.2.2⟩, ob, es, ep, k _ _ (.inl rfl) e, c⟩
  | set S n => obtain ⟨ob, es, ep, t, e, c⟩ := x; exact ⟨ob, es, ep, t, k _ _ (.inl rfl) e, c⟩
  | ins C dx fs =>
    obtain ⟨d, z, ne, e, mA, ⟨od, es, ep, e2, c⟩, r⟩ := x
    exact ⟨ho _ d, z, ne, k _ _ (.inl rfl) e, mA, ⟨od, es, ep, k _ _ (.inr d) e2, c⟩, r⟩
  | own y => obtain ⟨ob, e⟩ := x; exact ⟨ob, k _ _ (.inl rfl) e⟩
  | xd fs => obtain ⟨mA, ⟨od, es, ep, e, c⟩, r⟩ := x; exact ⟨mA, ⟨od, es, ep, k _ _ (.inl rfl) e, c⟩, r⟩
  | rng lo hi => obtain ⟨t, u, v, e⟩ := x; exact ⟨t, u, v, k _ _ (.inl rfl) e⟩
  | frz ob u ih => obtain ⟨e, q⟩ := x; exact ⟨k _ _ (.inl rfl) e, ih q⟩
  | tbl ps =>
    have e : h.get? a = some { cls := .none, data := .fields ps } := x
    show h'.get? a = some { cls := .none, data := .fields ps }
    exact k a _ (.inl rfl) e
  | met f y =>
    have e : h.get? a = some (PySem.W.methodObj (.ref f) (.ref y)) := x
    show h'.get? a = some (PySem.W.methodObj (.ref f) (.ref y))
    exact k a _ (.inl rfl) e
  | ext φ => obtain ⟨p, ⟨o, e⟩, st⟩ := x; exact ⟨st _ _ p fun o q => k _ _ (.inl rfl) q, ⟨o, k _ _ (.inl rfl) e⟩, st⟩
theorem HOk.lt (x : HOk P w H h) (e : H a = some o) : a < h.objs.size := (x a o e).lt
theorem HOk.fresh (x : HOk P w H h) (e : h.objs.size ≤ a) : H a = none := by
  cases q : H a with
  | none => rfl
  | some u => exact absurd (Nat.lt_of_lt_of_le (x.lt q) e) (Nat.lt_irrefl _)
theorem HOk.kept (x : HOk P w H h) (k : ∀ b u, h.get? b = some u → h'.get? b = some u) : HOk P w H h' := fun a o e =>
  (x a o e).stay (fun b u _ q => k b u q) (fun _ q => q) fun _ _ q => q
theorem HOk.laid (x : HOk P w H h) (k : ∀ b u, h.get? b = some u → h'.get? b = some u) (hp : h.objs.size ≤ a) (new : ObjOk P w (upd H a o) h' a o) : HOk P w (upd H a o) h' := fun b u e => by
  have hn := x.fresh hp
  by_cases hb : b = a
  · subst hb; rw [upd_same] at e; cases e; exact new
  · rw [upd_ne hb] at e
    exact (x b u e).stay (fun c v _ q => k c v q) (fun c q => by rw [upd_ne (ne_of_none q hn)]; exact q) fun c xs q => by rw [upd_ne (ne_of_none q hn)]; exact q
end

def Rd (H : Hp) (a : Addr) (u : HO) : Prop := H a = some u ∨ ∃ o, H a = some (.frz o u)
theorem Rd.of {H : Hp} {a : Addr} {u : HO} (h : H a = some u) : Rd H a u := .inl h
theorem Rd.ok {P : Program} {w : World} {H : Hp} {h : Heap} {a : Addr} {u : HO} (r : Rd H a u) (x : HOk P w H h) : ObjOk P w H h a u := by
  rcases r with r | ⟨o, r⟩
  · exact x a u r
  · obtain ⟨_, q⟩ := x a _ r
    exact q
def Mut : Option HO → Prop
  | some (.lst _) => True
  | some (.dK _) => True
  | some (.dT _) => True
  | some (.set _ _) => True
  | some (.ins _ _ _) => True
  | some (.ext _) => True
  | _ => False
section
variable {P : Program} {w : World} {H : Hp} {h h' : Heap} {x e : Addr} {o' : HO}
theorem HOk.write (ok : HOk P w H h) (mu : Mut (H x)) (he : e = x ∨ H e = some (.own x)) (k : ∀ b u, b ≠ e → h.get? b = some u → h'.get? b = some u) (heo : ∃ u, h'.get? e = some u)
    (new : ObjOk P w (upd H x o') h' x o') : HOk P w (upd H x o') h' := fun b u q => by
  have nown : ∀ c y, H c = some (.own y) → c ≠ x := fun c y r z => by subst z; rw [r] at mu; exact mu
  have ntup : ∀ c xs, H c = some (.tup xs) → c ≠ x := fun c xs r z => by subst z; rw [r] at mu; exact mu
  by_cases hb : b = x
  · subst hb; rw [upd_same] at q; cases q; exact new
  · rw [upd_ne hb] at q
    by_cases hbe : b = e
    · have q' : H b = some (.own x) := by
        rcases he with z | z
        · exact absurd (hbe.trans z) hb
        · rw [hbe]; exact z
      rw [q] at q'; cases q'
      obtain ⟨v, hv⟩ := heo
      exact ⟨v, by rw [hbe]; exact hv⟩
    · refine (ok b u q).stay (fun c v hc r => k c v ?_ r) (fun c r => by rw [upd_ne (nown c b r)]; exact r) fun c xs r => by rw [upd_ne (ntup c xs r)]; exact r
      rcases hc with rfl | hc
      · exact hbe
      · rintro rfl
        rcases he with z | z
        · exact nown c b hc z
        · rw [hc] at z; cases z; exact hb rfl
end

structure Un (fs ex : List Addr) (H H' : Hp) (h h' : Heap) : Prop where
  keep : ∀ b o, h.get? b = some o → H b = none → b ∉ fs → b ∉ ex → h'.get? b = some o
  slot : ∀ b o, h.get? b = some o → H b = none → b ∈ fs → b ∉ ex → ∃ sl, h'.get? b = some { o with slots := sl }
  free : ∀ b o, h.get? b = some o → H b = none → b ∉ ex → H' b = none
  there : ∀ b o, h.get? b = some o → b ∉ ex → ∃ o', h'.get? b = some o'
  tups : ∀ b xs, H b = some (.tup xs) → H' b = some (.tup xs)
  frzs : ∀ b o u, H b = some (.frz o u) → H' b = some (.frz o u)
  tbls : ∀ b ps, H b = some (.tbl ps) → ∃ more, H' b = some (.tbl (ps ++ more))
section
variable {fs fs' ex ex' : List Addr} {H H1 H2 : Hp} {h h1 h2 h' : Heap} {a x e : Addr} {o : HO}
theorem Un.any (u : Un fs ex H H1 h h1) {b : Addr} {ob : Obj} (q : h.get? b = some ob) (n : H b = none) (hx : b ∉ ex) : ∃ sl, h1.get? b = some { ob with slots := sl } := by
  by_cases hb : b ∈ fs
  · exact u.slot b ob q n hb hx
  · exact ⟨ob.slots, u.keep b ob q n hb hx⟩
theorem Un.trans (a : Un fs ex H H1 h h1) (b : Un fs ex H1 H2 h1 h2) : Un fs ex H H2 h h2 where
  keep := fun c ob q n hc hx => b.keep c ob (a.keep c ob q n hc hx) (a.free c ob q n hx) hc hx
  slot := fun c ob q n hc hx => by
    obtain ⟨sl, e1⟩ := a.slot c ob q n hc hx
    obtain ⟨sl', e2⟩ := b.slot c _ e1 (a.free c ob q n hx) hc hx
    exact ⟨sl', e2⟩
  free := fun c ob q n hx => by
    obtain ⟨o', e1⟩ := a.there c ob q hx
    exact b.free c o' e1 (a.free c ob q n hx) hx
  there := fun c ob q hx => by
    obtain ⟨o', e1⟩ := a.there c ob q hx
    exact b.there c o' e1 hx
  tups := fun c xs q => b.tups c xs (a.tups c xs q)
  frzs := fun c ob xs q => b.frzs c ob xs (a.frzs c ob xs q)
  tbls := fun c ps q => by
    obtain ⟨m1, e1⟩ := a.tbls c ps q
    obtain ⟨m2, e2⟩ := b.tbls c _ e1
    exact ⟨m1 ++ m2, by rw [e2, Array.append_assoc]⟩
theorem Un.kept (k : ∀ b u, h.get? b = some u → h'.get? b = some u) : Un fs ex H H h h' :=
  ⟨fun b ob q _ _ _ => k b ob q, fun b ob q _ _ _ => ⟨ob.slots, k b ob q⟩, fun _ _ _ n _ => n, fun b ob q _ => ⟨ob, k b ob q⟩, fun _ _ q => q, fun _ _ _ q => q, fun _ ps q => ⟨#[], by rw [q]; simp⟩⟩
theorem Un.refl : Un fs ex H H h h := Un.kept fun _ _ q => q
theorem Un.laid (k : ∀ b u, h.get? b = some u → h'.get? b = some u) (hp : h.objs.size ≤ a) (hn : H a = none) : Un fs ex H (upd H a o) h h' where
  keep := fun b u q _ _ _ => k b u q
  slot := fun b u q _ _ _ => ⟨u.slots, k b u q⟩
  free := fun b u q n _ => by rw [upd_ne (Nat.ne_of_lt (Nat.lt_of_lt_of_le (Heap.lt_size q) hp))]; exact n
  there := fun b u q _ => ⟨u, k b u q⟩
  tups := fun b xs q => by rw [upd_ne (ne_of_none q hn)]; exact q
  frzs := fun b u xs q => by rw [upd_ne (ne_of_none q hn)]; exact q
  tbls := fun b ps q => ⟨#[], by rw [upd_ne (ne_of_none q hn), q]; simp⟩
theorem Un.write (mu : Mut (H x)) (he : e = x ∨ H e = some (.own x)) (k : ∀ b u, b ≠ e → h.get? b = some u → h'.get? b = some u) (heo : ∃ u, h'.get? e = some u) : Un fs ex H (upd H x o) h h' := by
  have hx : ∀ b, H b = none → b ≠ x := fun b n z => by subst z; rw [n] at mu; exact mu
  have hb : ∀ b, H b = none → b ≠ e := fun b n z => by
    subst z
    rcases he with r | r
    · exact hx b n r
    · rw [n] at r; cases r
  have hm : ∀ b u, H b = some u → ¬ Mut (some u) → b ≠ x := fun b u q nm z => by subst z; rw [q] at mu; exact nm mu
  refine ⟨fun b u q n _ _ => k b u (hb b n) q, fun b u q n _ _ => ⟨u.slots, k b u (hb b n) q⟩, fun b u q n _ => by rw [upd_ne (hx b n)]; exact n, fun b u q _ => ?_,
    fun b xs q => by rw [upd_ne (hm b _ q fun z => z)]; exact q, fun b u xs q => by rw [upd_ne (hm b _ q fun z => z)]; exact q, fun b ps q => ⟨#[], by rw [upd_ne (hm b _ q fun z => z), q]; simp⟩⟩
  by_cases hbe : b = e
  · subst hbe; exact heo
  · exact ⟨u, k b u hbe q⟩
theorem Un.mono (u : Un fs ex H H1 h h1) (hs : ∀ b ∈ fs, b ∈ fs') (hx : ∀ b ∈ ex, b ∈ ex') : Un fs' ex' H H1 h h1 :=
  ⟨fun b ob q n hb he => u.keep b ob q n (fun z => hb (hs b z)) fun z => he (hx b z), fun _ _ q n _ he => u.any q n fun z => he (hx _ z), fun b ob q n he => u.free b ob q n fun z => he (hx b z), fun b ob q he => u.there b ob q fun z => he (hx b z), u.tups, u.frzs, u.tbls⟩
end

def trk (h : Heap) (H : Hp) : List Addr := (List.range h.objs.size).filter fun a => (H a).isSome
def hidT (h : Heap) (H : Hp) : Heap := PySem.W.hideAll h (trk h H)
theorem hidT_size (h : Heap) (H : Hp) : (hidT h H).objs.size = h.objs.size := PySem.W.hideAll_size _ _
theorem hidT_get {h : Heap} {H : Hp} {b : Addr} {o : Obj} (e : h.get? b = some o) (n : H b = none) : (hidT h H).get? b = some o :=
  PySem.W.hideAll_get _ e fun hm => by
    have q : (H b).isSome = true := (List.mem_filter.mp hm).2
    rw [n] at q; simp at q
theorem of_hidT {h : Heap} {H : Hp} {b : Addr} {o : Obj} (e : (hidT h H).get? b = some o) : h.get? b = some o ∧ H b = none := by
  have e' : h.get? b = some o := PySem.W.of_hideAll (trk h H) e
  refine ⟨e', ?_⟩
  cases q : H b with
  | none => rfl
  | some x =>
    have hm : b ∈ trk h H := List.mem_filter.mpr ⟨List.mem_range.mpr (Heap.lt_size e'), by simp [q]⟩
    have z : (hidT h H).get? b = none := PySem.W.hideAll_none (trk h H) hm
    rw [z] at e; cases e

def allNews (g h : Heap) (L : Addr) : List (Addr × Obj) := (List.range h.objs.size).filterMap fun a => if a = L ∨ (g.get? a).isSome = true then none else (h.get? a).map fun o => (a, o)
def rest (g h : Heap) (L d : Addr) : List (Addr × Obj) := (allNews g h L).filter fun p => decide (p.1 ≠ d)
end L2

namespace L2
open PySem PySem.Spec PyProof.Rows

structure Mod (K : PySem.W.Frag) (mg : Str → Option Value) (base : Heap) : Prop where
  kin : K.In base
  glob : base.Ns mainGlobals mg
  blt : ∃ mb, base.Ns builtinsNs mb ∧ ∀ x : Str, x ≠ "__name__" → mb x = bootBuiltins x
  nolimit : base.NoLimit

/-- the context: a def's body (or a comprehension's block) running. base: fixed through the whole law; s₀, H₀: the entry; outer: the frames whose slots others may change (a def's callers); stack: all frames that run;
   ex: iterators that were made ahead of the entry and are walked here (a comprehension's); fn: the names whose cells were made at the entry (a def: all; a comprehension's block: its own); calm: not within an except suite; pn: pins that every state bears; xe: what is wanted of an exception that leaves the code -/
structure Cx where
  prog : Program
  w : World
  K : PySem.W.Frag
  mg : Str → Option Value
  base : Heap
  A : Around
  N : List Str
  s₀ : Shared
  H₀ : Hp
  env : Env
  outer : List Env
  stack : List Env
  ex : List Addr
  fn : Str → Bool
  calm : Bool
  pn : List (Addr × Obj)
  xe : Value → Shared → Prop
def frs (l : List Env) : List Addr := l.filterMap (·.frame)
abbrev Cx.fs (X : Cx) : List Addr := frs X.outer

def Vis (sc : Scope) (x : Str) : Prop := sc.names.lookup x = some .local ∨ sc.names.lookup x = some .cell ∨ sc.names.lookup x = some .free
def Loc (sc : Scope) (x : Str) : Prop := sc.names.lookup x = some .local ∨ sc.names.lookup x = some .cell
def Look (env : Env) (h : Heap) (m : Str → Option Value) (x : Str) (u : Value) : Prop :=
  (env.kindOf x = some .local ∧ m x = some u) ∨ ((env.kindOf x = some .cell ∨ env.kindOf x = some .free) ∧ ∃ c, env.cells.lookup x = some c ∧ h.IsCell c (some u))

structure Cx.Ok (X : Cx) : Prop where
  mod : Mod X.K X.mg X.base
  kind : X.env.scope.kind = .function
  glob : X.env.globals = mainGlobals
  blt : X.env.builtins = builtinsNs
  above : X.s₀.heap.objs.size ≤ X.env.locals
  inj : ∀ x y c, X.env.cells.lookup x = some c → X.env.cells.lookup y = some c → x = y
  has : ∀ x, (X.env.kindOf x = some .cell ∨ X.env.kindOf x = some .free) → ∃ c, X.env.cells.lookup x = some c
  cab : ∀ x c, X.fn x = true → X.env.cells.lookup x = some c → X.s₀.heap.objs.size ≤ c
  hd : X.calm = true → X.A.handled = none
  frames : X.A.frames = some X.stack
  stk : X.stack = X.outer ∨ (X.stack = X.env :: X.outer ∧ X.env.frame = some X.env.locals)
  exf : ∀ b ∈ X.ex, b ≠ X.env.locals ∧ ∀ x c, X.env.cells.lookup x = some c → c ≠ b
  bs : ∀ b o, X.base.get? b = some o → X.s₀.heap.get? b = some o ∧ X.H₀ b = none
  bsz : X.base.objs.size ≤ X.s₀.heap.objs.size
  noex : ∀ b o, X.base.get? b = some o → b ∉ X.ex
  exfs : ∀ b ∈ X.ex, b ∉ X.fs
  funs : X.s₀.heap.FunFrames X.base X.outer
  frf : ∀ b ∈ X.fs, X.H₀ b = none

structure Inv (X : Cx) (pins : List (Addr × Obj)) (σ : List (Option V)) (H : Hp) (s : Shared) : Prop where
  ok : X.Ok
  os : s.os = X.s₀.os
  bare : AllBare s.gens
  base : Un X.fs X.ex X.H₀ H X.s₀.heap s.heap
  loc : ∃ m, s.heap.Ns X.env.locals m ∧ ∀ (i : Nat) (x : Str) (v : V), X.N[i]? = some x → σ[i]? = some (some v) → Vis X.env.scope x → ∃ u, RelV v u ∧ Look X.env s.heap m x u
  cell : ∀ x c, X.env.cells.lookup x = some c → ∃ v, s.heap.IsCell c v
  free : H X.env.locals = none
  freeC : ∀ x c, X.env.cells.lookup x = some c → H c = none
  pin : ∀ p ∈ X.pn ++ pins, s.heap.get? p.1 = some p.2 ∧ H p.1 = none ∧ p.1 ≠ X.env.locals ∧ p.1 ∉ X.fs ∧ ∀ v, p.2.data ≠ .cell v
  hok : HOk X.prog X.w H s.heap
  len : σ.length = X.N.length

section
variable {X : Cx} {pins : List (Addr × Obj)} {σ : List (Option V)} {H H' : Hp} {s : Shared} {h' : Heap}

theorem Cx.Ok.nofr (ok : X.Ok) {b : Addr} {o : Obj} (e : X.base.get? b = some o) : b ∉ X.fs := fun hb => by
  have := (ok.funs.mem hb).1
  rw [e] at this; cases this
theorem Inv.bs (I : Inv X pins σ H s) : ∀ b o, X.base.get? b = some o → s.heap.get? b = some o ∧ H b = none := fun b o e =>
  ⟨I.base.keep b o (I.ok.bs b o e).1 (I.ok.bs b o e).2 (I.ok.nofr e) (I.ok.noex b o e), I.base.free b o (I.ok.bs b o e).1 (I.ok.bs b o e).2 (I.ok.noex b o e)⟩
theorem Inv.bk (I : Inv X pins σ H s) : ∀ b o, X.base.get? b = some o → s.heap.get? b = some o := fun b o e => (I.bs b o e).1
theorem Inv.mod (I : Inv X pins σ H s) : Mod X.K X.mg X.base := I.ok.mod
theorem Inv.kIn (I : Inv X pins σ H s) : X.K.In s.heap := I.ok.mod.kin.keeps I.bk
theorem Inv.nolimit (I : Inv X pins σ H s) : s.heap.NoLimit := I.ok.mod.nolimit.keeps I.bk
theorem Inv.fr (I : Inv X pins σ H s) : ∃ m, Fr X.base X.env.locals s.heap m :=
  let ⟨m, hn, _⟩ := I.loc
  ⟨m, hn, I.bk, Nat.le_trans I.ok.bsz I.ok.above⟩
theorem Inv.lt (I : Inv X pins σ H s) : X.env.locals < s.heap.objs.size := let ⟨_, hn, _⟩ := I.loc; hn.lt
theorem Inv.sz (I : Inv X pins σ H s) : X.s₀.heap.objs.size ≤ s.heap.objs.size := Nat.le_trans I.ok.above (Nat.le_of_lt I.lt)
theorem Inv.nofs (I : Inv X pins σ H s) {a : Addr} (h : s.heap.objs.size ≤ a) : a ∉ X.fs := fun hb => by
  obtain ⟨_, o, ho, _⟩ := I.ok.funs.mem hb
  exact absurd (Nat.lt_of_lt_of_le (Heap.lt_size ho) (Nat.le_trans I.sz h)) (Nat.lt_irrefl _)
theorem Inv.cne (I : Inv X pins σ H s) : ∀ x c, X.env.cells.lookup x = some c → c ≠ X.env.locals := fun x c e z => by
  obtain ⟨v, o, ho, hd⟩ := I.cell x c e
  obtain ⟨m, ⟨o', es, ep, ho', hd', _⟩, _⟩ := I.loc
  rw [z, ho'] at ho; cases ho; rw [hd'] at hd; cases hd
theorem Inv.funs (I : Inv X pins σ H s) : s.heap.FunFrames X.base X.outer := by
  have all : ∀ (l : List Env), (∀ b ∈ frs l, b ∈ X.fs) → X.s₀.heap.FunFrames X.base l → s.heap.FunFrames X.base l := by
    intro l
    induction l with
    | nil => intro _ _; trivial
    | cons env r ih =>
      intro hs hl
      obtain ⟨hk, ⟨L, o, hf, hn, ho, hd⟩, hr⟩ := hl
      have hL : L ∈ X.fs := hs L (by unfold frs; rw [List.filterMap_cons, hf]; exact List.mem_cons_self)
      obtain ⟨sl, e⟩ := I.base.slot L o ho (I.ok.frf L hL) hL fun z => I.ok.exfs L z hL
      exact ⟨hk, ⟨L, _, hf, hn, e, hd⟩, ih (fun b hb => hs b (by unfold frs; rw [List.filterMap_cons, hf]; exact List.mem_cons_of_mem _ hb)) hr⟩
  exact all X.outer (fun _ hb => hb) I.ok.funs

theorem Inv.stack (I : Inv X pins σ H s) : s.heap.FunFrames X.base X.stack := by
  rcases I.ok.stk with e | ⟨e, hf⟩
  · rw [e]; exact I.funs
  · rw [e]
    obtain ⟨m, hn, _⟩ := I.loc
    refine .cons (by rw [I.ok.kind]; decide) hf hn ?_ I.funs
    exact Heap.get?_none_of_le (Nat.le_trans I.ok.bsz I.ok.above)
theorem Inv.stkSub (I : Inv X pins σ H s) : ∀ b ∈ frs X.stack, b ∈ X.env.locals :: X.fs := fun b hb => by
  rcases I.ok.stk with e | ⟨e, hf⟩
  · rw [e] at hb; exact List.mem_cons_of_mem _ hb
  · rw [e] at hb
    unfold frs at hb
    rw [List.filterMap_cons, hf] at hb
    exact hb
theorem Inv.stkFree (I : Inv X pins σ H s) : ∀ b ∈ frs X.stack, H b = none := fun b hb => by
  rcases List.mem_cons.mp (I.stkSub b hb) with e | hb
  · rw [e]; exact I.free
  · obtain ⟨_, o, ho, _⟩ := I.ok.funs.mem hb
    exact I.base.free b o ho (I.ok.frf b hb) fun z => I.ok.exfs b z hb

theorem Inv.step {g' : Array GenState} {t' : Nat} {d' : Drawn} {ch : List Addr} (I : Inv X pins σ H s)
    (hch : ∀ b ∈ ch, (b ∈ X.ex ∨ X.s₀.heap.objs.size ≤ b) ∧ b ≠ X.env.locals ∧ (∀ x c, X.env.cells.lookup x = some c → c ≠ b) ∧ ∀ p ∈ X.pn ++ pins, p.1 ≠ b)
    (keep : ∀ b o, b ≠ X.env.locals → b ∉ X.fs → b ∉ ch → s.heap.get? b = some o → H b = none → h'.get? b = some o)
    (slot : ∀ b o, b ≠ X.env.locals → b ∈ X.fs → b ∉ ch → s.heap.get? b = some o → H b = none → ∃ sl, h'.get? b = some { o with slots := sl }) (free : ∀ b o, b ∉ ch → s.heap.get? b = some o → H b = none → H' b = none)
    (there : ∀ b o, b ∉ ch → s.heap.get? b = some o → ∃ o', h'.get? b = some o')
    (tups : ∀ b xs, H b = some (.tup xs) → H' b = some (.tup xs)) (frzs : ∀ b o u, H b = some (.frz o u) → H' b = some (.frz o u)) (tbls : ∀ b ps, H b = some (.tbl ps) → ∃ more, H' b = some (.tbl (ps ++ more)))
    (ns : ∀ m, s.heap.Ns X.env.locals m → h'.Ns X.env.locals m) (hok : HOk X.prog X.w H' h') (hg : AllBare g') :
    Inv X pins σ H' { s with heap := h', gens := g', drawn := d', toks := t' } := by
  have neL : ∀ b o, X.s₀.heap.get? b = some o → b ≠ X.env.locals := fun b o e => Nat.ne_of_lt (Nat.lt_of_lt_of_le (Heap.lt_size e) I.ok.above)
  have neC : ∀ b o, X.s₀.heap.get? b = some o → b ∉ X.ex → b ∉ ch := fun b o e hx hb => by
    rcases (hch b hb).1 with z | z
    · exact hx z
    · exact absurd (Nat.lt_of_lt_of_le (Heap.lt_size e) z) (Nat.lt_irrefl _)
  have cellK : ∀ x c, X.env.cells.lookup x = some c → ∀ v, s.heap.IsCell c v → h'.IsCell c v := fun x c e v ⟨o, ho, hd⟩ => by
    have nch : c ∉ ch := fun z => (hch c z).2.2.1 x c e rfl
    by_cases hc : c ∈ X.fs
    · obtain ⟨sl, q⟩ := slot c o (I.cne x c e) hc nch ho (I.freeC x c e)
      exact ⟨_, q, hd⟩
    · exact ⟨o, keep c o (I.cne x c e) hc nch ho (I.freeC x c e), hd⟩
  refine ⟨I.ok, I.os, hg, ⟨fun b o e n hb hx => ?_, fun b o e n hb hx => ?_, fun b o e n hx => ?_, fun b o e hx => ?_, fun b xs e => tups b xs (I.base.tups b xs e), fun b o xs e => frzs b o xs (I.base.frzs b o xs e), fun b ps e => ?_⟩, ?_, fun x c e => ?_, ?_, fun x c e => ?_, fun p hp => ?_, hok, I.len⟩
  · exact keep b o (neL b o e) hb (neC b o e hx) (I.base.keep b o e n hb hx) (I.base.free b o e n hx)
  · obtain ⟨sl, e1⟩ := I.base.slot b o e n hb hx
    obtain ⟨sl', e2⟩ := slot b _ (neL b o e) hb (neC b o e hx) e1 (I.base.free b o e n hx)
    exact ⟨sl', e2⟩
  · obtain ⟨o', e1⟩ := I.base.there b o e hx
    exact free b o' (neC b o e hx) e1 (I.base.free b o e n hx)
  · obtain ⟨o', e1⟩ := I.base.there b o e hx
    exact there b o' (neC b o e hx) e1
  · obtain ⟨m1, e1⟩ := I.base.tbls b ps e
    obtain ⟨m2, e2⟩ := tbls b _ e1
    exact ⟨m1 ++ m2, by rw [e2, Array.append_assoc]⟩
  · obtain ⟨m, hn, hl⟩ := I.loc
    refine ⟨m, ns m hn, fun i x v e1 e2 e3 => ?_⟩
    obtain ⟨u, r, l⟩ := hl i x v e1 e2 e3
    refine ⟨u, r, ?_⟩
    rcases l with l | ⟨k, c, e, z⟩
    · exact .inl l
    · exact .inr ⟨k, c, e, cellK x c e _ z⟩
  · obtain ⟨v, z⟩ := I.cell x c e
    exact ⟨v, cellK x c e v z⟩
  · obtain ⟨m, ⟨o, _, _, ho, _⟩, _⟩ := I.loc
    exact free _ o (fun z => (hch _ z).2.1 rfl) ho I.free
  · obtain ⟨v, o, ho, hd⟩ := I.cell x c e
    exact free c o (fun z => (hch c z).2.2.1 x c e rfl) ho (I.freeC x c e)
  · obtain ⟨e, n, ne, nf, d⟩ := I.pin p hp
    have nch : p.1 ∉ ch := fun z => (hch p.1 z).2.2.2 p hp rfl
    exact ⟨keep p.1 p.2 ne nf nch e n, free p.1 p.2 nch e n, ne, nf, d⟩
theorem Inv.un {t' : Nat} (I : Inv X pins σ H s) (u : Un X.fs [] H H' s.heap h') (hok : HOk X.prog X.w H' h') : Inv X pins σ H' { s with heap := h', toks := t' } := by
  obtain ⟨m, ⟨o, es, ep, ho, r⟩, _⟩ := id I.loc
  obtain ⟨sl, hL⟩ := u.any ho I.free (by simp)
  exact I.step (g' := s.gens) (d' := s.drawn) (ch := []) (fun _ z => nomatch z) (fun b o _ hb _ e n => u.keep b o e n hb (by simp)) (fun b o _ hb _ e n => u.slot b o e n hb (by simp)) (fun b o _ e n => u.free b o e n (by simp)) (fun b o _ e => u.there b o e (by simp)) u.tups u.frzs u.tbls (fun m' hm => by
    obtain ⟨o', es', ep', ho', r'⟩ := hm
    rw [ho] at ho'; cases ho'
    exact ⟨_, es', ep', hL, r'⟩) hok I.bare
theorem Inv.call {g' : Array GenState} {t' : Nat} {d' : Drawn} {ch : List Addr} (I : Inv X pins σ H s) (u : Un (frs X.stack) ch H H' s.heap h') (hok : HOk X.prog X.w H' h') (hg : AllBare g')
    (hch : ∀ b ∈ ch, (b ∈ X.ex ∨ X.s₀.heap.objs.size ≤ b) ∧ b ≠ X.env.locals ∧ (∀ x c, X.env.cells.lookup x = some c → c ≠ b) ∧ ∀ p ∈ X.pn ++ pins, p.1 ≠ b) :
    Inv X pins σ H' { s with heap := h', gens := g', drawn := d', toks := t' } := by
  obtain ⟨m, ⟨o, es, ep, ho, r⟩, _⟩ := id I.loc
  obtain ⟨sl, hL⟩ := u.any ho I.free fun z => (hch _ z).2.1 rfl
  exact I.step (ch := ch) hch (fun b o hL hb hc e n => u.keep b o e n (fun z => (List.mem_cons.mp (I.stkSub b z)).elim hL hb) hc) (fun b o _ _ hc e n => u.any e n hc) (fun b o hc e n => u.free b o e n hc) (fun b o hc e => u.there b o e hc) u.tups u.frzs u.tbls (fun m' hm => by
    obtain ⟨o', es', ep', ho', r'⟩ := hm
    rw [ho] at ho'; cases ho'
    exact ⟨_, es', ep', hL, r'⟩) hok hg
theorem Inv.turned {t' : Nat} {it : Addr} (I : Inv X pins σ H s) (k : ∀ b o, b ≠ it → s.heap.get? b = some o → h'.get? b = some o) (hn : H it = none) (hL : it ≠ X.env.locals)
    (h1 : it ∈ X.ex ∨ X.s₀.heap.objs.size ≤ it) (h2 : ∀ x c, X.env.cells.lookup x = some c → c ≠ it) (h3 : ∀ p ∈ X.pn ++ pins, p.1 ≠ it) : Inv X pins σ H { s with heap := h', toks := t' } := by
  have nit : ∀ b u, H b = some u → b ≠ it := fun b u e z => by rw [z, hn] at e; cases e
  refine I.step (g' := s.gens) (d' := s.drawn) (ch := [it]) (fun b hb => ?_) (fun b o _ _ hc e _ => k b o (fun z => hc (by simp [z])) e) (fun b o _ _ hc e _ => ⟨o.slots, k b o (fun z => hc (by simp [z])) e⟩) (fun _ _ _ _ n => n)
    (fun b o hc e => ⟨o, k b o (fun z => hc (by simp [z])) e⟩) (fun _ _ e => e) (fun _ _ _ e => e) (fun b ps e => ⟨#[], by rw [e]; simp⟩) (fun m hm => ?_) (fun b u e => ?_) I.bare
  · have e : b = it := by simpa using hb
    subst e
    exact ⟨h1, hL, h2, h3⟩
  · obtain ⟨o, es, ep, ho, r⟩ := hm
    exact ⟨o, es, ep, k _ o (Ne.symm hL) ho, r⟩
  · refine (I.hok b u e).stay (fun c v hc q => k c v ?_ q) (fun _ q => q) fun _ _ q => q
    rcases hc with z | z
    · rw [z]; exact nit b u e
    · exact nit c _ z
theorem Inv.tok (I : Inv X pins σ H s) (t : Nat) : Inv X pins σ H { s with toks := t } := I.un (h' := s.heap) (t' := t) Un.refl I.hok
theorem Inv.kept {t' : Nat} (I : Inv X pins σ H s) (k : ∀ b u, s.heap.get? b = some u → h'.get? b = some u) : Inv X pins σ H { s with heap := h', toks := t' } := I.un (Un.kept k) (I.hok.kept k)
theorem Inv.laid {a : Addr} {o : HO} {t' : Nat} (I : Inv X pins σ H s) (k : ∀ b u, s.heap.get? b = some u → h'.get? b = some u) (hp : s.heap.objs.size ≤ a) (new : ObjOk X.prog X.w (upd H a o) h' a o) :
    Inv X pins σ (upd H a o) { s with heap := h', toks := t' } := I.un (Un.laid k hp (I.hok.fresh hp)) (I.hok.laid k hp new)
theorem Inv.write {x e : Addr} {o : HO} {t' : Nat} (I : Inv X pins σ H s) (mu : Mut (H x)) (he : e = x ∨ H e = some (.own x)) (k : ∀ b u, b ≠ e → s.heap.get? b = some u → h'.get? b = some u) (heo : ∃ u, h'.get? e = some u)
    (new : ObjOk X.prog X.w (upd H x o) h' x o) : Inv X pins σ (upd H x o) { s with heap := h', toks := t' } := I.un (Un.write mu he k heo) (I.hok.write mu he k heo new)
theorem Inv.weak {σ' : List (Option V)} (I : Inv X pins σ H s) (hl : σ'.length = σ.length) (w : ∀ (i : Nat) v, σ'[i]? = some (some v) → σ[i]? = some (some v)) : Inv X pins σ' H s :=
  ⟨I.ok, I.os, I.bare, I.base, let ⟨m, hn, hl'⟩ := I.loc; ⟨m, hn, fun i x v e1 e2 e3 => hl' i x v e1 (w i v e2) e3⟩, I.cell, I.free, I.freeC, I.pin, I.hok, hl.trans I.len⟩
theorem Inv.pins_of {pins' : List (Addr × Obj)} (I : Inv X pins σ H s) (h : ∀ p ∈ pins', s.heap.get? p.1 = some p.2 ∧ H p.1 = none ∧ p.1 ≠ X.env.locals ∧ p.1 ∉ X.fs ∧ ∀ v, p.2.data ≠ .cell v) : Inv X pins' σ H s :=
  ⟨I.ok, I.os, I.bare, I.base, I.loc, I.cell, I.free, I.freeC, fun p hp => (List.mem_append.mp hp).elim (fun z => I.pin p (List.mem_append_left _ z)) (h p), I.hok, I.len⟩

theorem nodup_ix {N : List Str} (hN : N.Nodup) {i j : Nat} {x : Str} (a : N[i]? = some x) (b : N[j]? = some x) : i = j := by
  obtain ⟨h1, e1⟩ := List.getElem?_eq_some_iff.mp a
  obtain ⟨h2, e2⟩ := List.getElem?_eq_some_iff.mp b
  exact (List.getElem_inj hN).mp (e1.trans e2.symm)

theorem store_ok2 {M : Model} {A : Around} {E : Value → Shared → Prop} {i : Nat} {x : Str} {v : V} {u : Value} {Q : Unit → Shared → Prop} (I : Inv X pins σ H s) (hN : X.N.Nodup) (hi : X.N[i]? = some x) (hx : Loc X.env.scope x) (r : RelV v u)
    (h : ∀ s', Inv X pins (σ.set i (some v)) H s' → (∃ a, Heap.SameBut a s.heap s'.heap ∧ (a = X.env.locals ∨ X.env.cells.lookup x = some a)) → Q () s') (hf : X.fn x = true ∨ X.env.scope.names.lookup x = some .local := by first | exact .inl rfl | exact .inr rfl | assumption) : wpAny M A (storeName X.env x u) Q E s := by
  obtain ⟨m, hn, hl⟩ := id I.loc
  have hcls : (X.env.scope.kind == .class || (X.env.scope.kind == .module && X.env.locals != X.env.globals)) = false := by rw [I.ok.kind]; rfl
  have hiσ : i < σ.length := by rw [I.len]; exact (List.getElem?_eq_some_iff.mp hi).1
  have cne := I.cne
  have tracked : ∀ {a : Addr} {h' : Heap}, (∃ o, s.heap.get? a = some o ∧ H a = none) → Heap.SameBut a s.heap h' → HOk X.prog X.w H h' := fun {a h'} ha hs b ob e => by
    obtain ⟨_, _, hfree⟩ := ha
    refine (I.hok b ob e).stay (fun c w' hc q => (hs.2 c ?_).trans q) (fun _ q => q) fun _ _ q => q
    rintro rfl
    rcases hc with rfl | hc
    · rw [hfree] at e; cases e
    · rw [hfree] at hc; cases hc
  rcases hx with hk | hk
  · refine wpAny_storeName_local hk hn (fun h' hn' hs => ?_) hcls
    obtain ⟨oL, _, _, hoL, _⟩ := id hn
    refine h _ ⟨I.ok, I.os, I.bare, ⟨fun b o e n hb hx => ?_, fun b o e n hb hx => ?_, I.base.free, fun b o e hx => ?_, I.base.tups, I.base.frzs, I.base.tbls⟩, ⟨_, hn', fun j y v' e1 e2 e3 => ?_⟩, fun y c e => ?_, I.free, I.freeC, fun p hp => ?_, tracked ⟨oL, hoL, I.free⟩ hs, by simpa using I.len⟩ ⟨_, hs, .inl rfl⟩
    · exact (hs.2 b (Nat.ne_of_lt (Nat.lt_of_lt_of_le (Heap.lt_size e) I.ok.above))).trans (I.base.keep b o e n hb hx)
    · obtain ⟨sl, e1⟩ := I.base.slot b o e n hb hx
      exact ⟨sl, (hs.2 b (Nat.ne_of_lt (Nat.lt_of_lt_of_le (Heap.lt_size e) I.ok.above))).trans e1⟩
    · obtain ⟨o', e1⟩ := I.base.there b o e hx
      exact ⟨o', (hs.2 b (Nat.ne_of_lt (Nat.lt_of_lt_of_le (Heap.lt_size e) I.ok.above))).trans e1⟩
    · by_cases hj : j = i
      · subst hj
        rw [hi] at e1; cases e1
        rw [List.getElem?_set_self hiσ] at e2
        cases e2
        exact ⟨u, r, .inl ⟨hk, by simp⟩⟩
      · rw [List.getElem?_set_ne (Ne.symm hj)] at e2
        obtain ⟨u', r', q⟩ := hl j y v' e1 e2 e3
        refine ⟨u', r', ?_⟩
        rcases q with ⟨k, e⟩ | ⟨k, c, e, z⟩
        · refine .inl ⟨k, ?_⟩
          have : y ≠ x := fun e => hj (nodup_ix hN e1 (e ▸ hi))
          simp [this, e]
        · exact .inr ⟨k, c, e, z.sameBut hs (cne y c e)⟩
    · obtain ⟨w', z⟩ := I.cell y c e
      exact ⟨w', z.sameBut hs (cne y c e)⟩
    · obtain ⟨e, n, ne, nf, d⟩ := I.pin p hp
      exact ⟨(hs.2 p.1 ne).trans e, n, ne, nf, d⟩
  · have hfn : X.fn x = true := by
      rcases hf with z | z
      · exact z
      · rw [z] at hk; cases hk
    obtain ⟨c, hc⟩ := I.ok.has x (.inl hk)
    obtain ⟨w', z⟩ := I.cell x c hc
    refine wpAny_storeName_cell I.ok.kind hk hc z (fun h' hc' hs => ?_)
    obtain ⟨oc, hoc, hocd⟩ := id z
    refine h { s with heap := h' } ⟨I.ok, I.os, I.bare, ⟨fun b o e n hb hx => ?_, fun b o e n hb hx => ?_, I.base.free, fun b o e hx => ?_, I.base.tups, I.base.frzs, I.base.tbls⟩, ⟨m, hn.sameBut hs (Ne.symm (cne x c hc)), fun j y v' e1 e2 e3 => ?_⟩, fun y c' e => ?_, I.free, I.freeC, fun p hp => ?_, tracked ⟨oc, hoc, I.freeC x c hc⟩ hs, by simpa using I.len⟩ ⟨c, hs, .inr hc⟩
    · exact (hs.2 b (Nat.ne_of_lt (Nat.lt_of_lt_of_le (Heap.lt_size e) (I.ok.cab x c hfn hc)))).trans (I.base.keep b o e n hb hx)
    · obtain ⟨sl, e1⟩ := I.base.slot b o e n hb hx
      exact ⟨sl, (hs.2 b (Nat.ne_of_lt (Nat.lt_of_lt_of_le (Heap.lt_size e) (I.ok.cab x c hfn hc)))).trans e1⟩
    · obtain ⟨o', e1⟩ := I.base.there b o e hx
      exact ⟨o', (hs.2 b (Nat.ne_of_lt (Nat.lt_of_lt_of_le (Heap.lt_size e) (I.ok.cab x c hfn hc)))).trans e1⟩
    · by_cases hj : j = i
      · subst hj
        rw [hi] at e1; cases e1
        rw [List.getElem?_set_self hiσ] at e2
        cases e2
        exact ⟨u, r, .inr ⟨.inl hk, c, hc, hc'⟩⟩
      · rw [List.getElem?_set_ne (Ne.symm hj)] at e2
        obtain ⟨u', r', q⟩ := hl j y v' e1 e2 e3
        refine ⟨u', r', ?_⟩
        rcases q with q | ⟨k, c', e, z'⟩
        · exact .inl q
        · refine .inr ⟨k, c', e, z'.sameBut hs ?_⟩
          rintro rfl
          exact hj (nodup_ix hN e1 (I.ok.inj _ _ _ e hc ▸ hi))
    · by_cases hcc : c' = c
      · subst hcc; exact ⟨_, hc'⟩
      · obtain ⟨w2, z2⟩ := I.cell y c' e
        exact ⟨w2, z2.sameBut hs hcc⟩
    · obtain ⟨e, n, ne, nf, d⟩ := I.pin p hp
      refine ⟨(hs.2 p.1 ?_).trans e, n, ne, nf, d⟩
      intro q
      rw [q, hoc] at e
      have q' : oc = p.2 := Option.some.inj e
      exact d w' (by rw [← q']; exact hocd)
theorem store_ok {M : Model} {A : Around} {E : Value → Shared → Prop} {i : Nat} {x : Str} {v : V} {u : Value} {Q : Unit → Shared → Prop} (I : Inv X pins σ H s) (hN : X.N.Nodup) (hi : X.N[i]? = some x) (hx : Loc X.env.scope x) (r : RelV v u)
    (h : ∀ s', Inv X pins (σ.set i (some v)) H s' → Q () s') (hf : X.fn x = true ∨ X.env.scope.names.lookup x = some .local := by first | exact .inl rfl | exact .inr rfl | assumption) : wpAny M A (storeName X.env x u) Q E s :=
  store_ok2 I hN hi hx r (fun s' I' _ => h s' I') hf
theorem Inv.call' {s' : Shared} {ch : List Addr} (I : Inv X pins σ H s) (ho : s'.os = s.os) (u : Un (frs X.stack) ch H H' s.heap s'.heap) (hok : HOk X.prog X.w H' s'.heap) (hg : AllBare s'.gens)
    (hch : ∀ b ∈ ch, (b ∈ X.ex ∨ X.s₀.heap.objs.size ≤ b) ∧ b ≠ X.env.locals ∧ (∀ x c, X.env.cells.lookup x = some c → c ≠ b) ∧ ∀ p ∈ X.pn ++ pins, p.1 ≠ b) : Inv X pins σ H' s' := by
  obtain ⟨h', g', d', t', o'⟩ := s'
  have e : o' = s.os := ho
  subst e
  exact I.call (g' := g') (t' := t') (d' := d') u hok hg hch
end

abbrev XK := Value → Option Addr → Hp → Prop
abbrev St := List (Option V)
abbrev VK := V → Hp → Prop
abbrev TE := St → Hp → VK → Prop
abbrev TT := St → Hp → (Bool → Hp → Prop) → Prop
abbrev TA := St → Hp → (List V → Hp → Prop) → Prop
structure Ends where
  nx : St → Hp → Prop
  rt : VK
  bk : St → Hp → Prop := fun _ _ => False
  ct : St → Hp → Prop := fun _ _ => False
abbrev TS := Ends → St → Hp → Prop

def EP (X : Cx) (pins : List (Addr × Obj)) (σ : St) (Q : VK) (u : Value) (s' : Shared) : Prop := ∃ v H', Inv X pins σ H' s' ∧ RelV v u ∧ Q v H'
def TP (X : Cx) (pins : List (Addr × Obj)) (σ : St) (Q : Bool → Hp → Prop) (b : Bool) (s' : Shared) : Prop := ∃ H', Inv X pins σ H' s' ∧ Q b H'
def AP (X : Cx) (pins : List (Addr × Obj)) (σ : St) (Q : List V → Hp → Prop) (us : List Value) (s' : Shared) : Prop := ∃ vs H', Inv X pins σ H' s' ∧ Vals vs us ∧ Q vs H'
def SP (X : Cx) (pins : List (Addr × Obj)) (D : Ends) (f : Flow) (s' : Shared) : Prop :=
  match f with
  | .next => ∃ σ' H', Inv X pins σ' H' s' ∧ D.nx σ' H'
  | .brk => ∃ σ' H', Inv X pins σ' H' s' ∧ D.bk σ' H'
  | .cont => ∃ σ' H', Inv X pins σ' H' s' ∧ D.ct σ' H'
  | .ret u => ∃ v σ' H', Inv X pins σ' H' s' ∧ RelV v u ∧ D.rt v H'

def PE (X : Cx) (e : Expr) (t : TE) : Prop :=
  ∀ (pins : List (Addr × Obj)) (s : Shared) (σ : St) (H : Hp) (Q : VK), Inv X pins σ H s → t σ H Q → wpAny (model X.prog X.w) X.A (eval e X.env) (EP X pins σ Q) X.xe s
def PT (X : Cx) (e : Expr) (t : TT) : Prop :=
  ∀ (pins : List (Addr × Obj)) (s : Shared) (σ : St) (H : Hp) (Q : Bool → Hp → Prop), Inv X pins σ H s → t σ H Q → wpAny (model X.prog X.w) X.A (isTrue e X.env (eval e X.env)) (TP X pins σ Q) X.xe s
def PW (X : Cx) (e : Expr) (t : TT) : Prop :=
  ∀ (whole : Sem Value) (pins : List (Addr × Obj)) (s : Shared) (σ : St) (H : Hp) (Q : Bool → Hp → Prop), Inv X pins σ H s → t σ H Q → wpAny (model X.prog X.w) X.A (isTrue e X.env whole) (TP X pins σ Q) X.xe s
theorem PW.pt {X : Cx} {e : Expr} {t : TT} (h : PW X e t) : PT X e t := h _
def PA (X : Cx) (es : List Expr) (t : TA) : Prop :=
  ∀ (pos : Pos) (pins : List (Addr × Obj)) (s : Shared) (σ : St) (H : Hp) (Q : List V → Hp → Prop), Inv X pins σ H s → t σ H Q → wpAny (model X.prog X.w) X.A (spliced (backTo pos (starEach es X.env))) (AP X pins σ Q) X.xe s
def PS (X : Cx) (st : Stmt) (t : TS) : Prop :=
  ∀ (pins : List (Addr × Obj)) (s : Shared) (σ : St) (H : Hp) (D : Ends), Inv X pins σ H s → t D σ H → wpAny (model X.prog X.w) X.A (exec st X.env) (SP X pins D) X.xe s
def PSs (X : Cx) (st : List Stmt) (t : TS) : Prop :=
  ∀ (pins : List (Addr × Obj)) (s : Shared) (σ : St) (H : Hp) (D : Ends), Inv X pins σ H s → t D σ H → wpAny (model X.prog X.w) X.A (execs st X.env) (SP X pins D) X.xe s
theorem thn {α : Type} {t : Sem α} {Q Q' : α → Shared → Prop} {M : Model} {A : Around} {E : Value → Shared → Prop} {s : Shared} (h : wpAny M A t Q E s) (hQ : ∀ a s, Q a s → Q' a s) : wpAny M A t Q' E s := wpAny_mono h hQ fun _ _ x => x
end L2

namespace L2
open PySem PySem.Spec PyProof.Rows
section
variable {X : Cx}

def tVar (i : Nat) : TE := fun σ H Q => ∃ v, σ[i]? = some (some v) ∧ Q v H
def tC (v : V) : TE := fun _ H Q => Q v H
theorem pe_var {i : Nat} {x : Str} {pos : Pos} (hN : X.N[i]? = some x) (hv : Vis X.env.scope x) (hd : (x == ("__debug__" : Str)) = false := by decide) (hcd : (x == ("__classdict__" : Str)) = false := by decide) : PE X (.Name x pos) (tVar i) := by
  intro pins s σ H Q I h
  obtain ⟨v, e, h⟩ := h
  obtain ⟨m, hn, hl⟩ := I.loc
  obtain ⟨u, r, l⟩ := hl i x v hN e hv
  have fin : EP X pins σ Q u s := ⟨v, H, I, r, h⟩
  rcases l with ⟨hk, hm⟩ | ⟨hk, c, hc, hcell⟩
  · exact wpAny_Name (wpAny_loadName_local I.ok.kind hk hn hm fin) hd
  · rcases hk with hk | hk
    · exact wpAny_Name (wpAny_loadName_cell I.ok.kind hk hc hcell fin) hd
    · exact wpAny_Name (wpAny_loadName_free I.ok.kind hk hc hcell fin hcd) hd
theorem pe_int {i j pos} : PE X (.Constant (.int i) j pos) (tC (.int i)) := fun _ _ _ H _ I h => wpAny_Constant_int ⟨.int i, H, I.tok _, ⟨_, rfl⟩, h⟩
theorem pe_bl {b j pos} : PE X (.Constant (.bool b) j pos) (tC (.bl b)) := fun _ _ _ H _ I h => Constant_bool ⟨.bl b, H, I, rfl, h⟩
theorem pe_non {j pos} : PE X (.Constant .none j pos) (tC .non) := fun _ _ _ H _ I h => Constant_none ⟨.non, H, I, rfl, h⟩
theorem pe_str {x j pos} : PE X (.Constant (.str x) j pos) (tC (.str x)) := fun _ _ _ H _ I h => Calls.Constant_str ⟨.str x, H, I.tok _, ⟨_, rfl⟩, h⟩

def Gl (X : Cx) (x : Str) : Prop := X.env.kindOf x = some .globalImplicit
theorem ld_glob {E : Value → Shared → Prop} {pins : List (Addr × Obj)} {s : Shared} {σ : St} {H : Hp} {x : Str} {u : Value} {pos : Pos} {Q : Value → Shared → Prop} (I : Inv X pins σ H s) (hg : Gl X x) (hm : X.mg x = some u) (h : Q u s)
    (hd : (x == ("__debug__" : Str)) = false := by decide) : wpAny (model X.prog X.w) X.A (eval (.Name x pos) X.env) Q E s :=
  Calls.Name_function_global I.ok.kind hg (Calls.loadGlobal_global (by rw [I.ok.glob]; exact I.mod.glob.keeps I.bk) hm h) hd
theorem ld_blt {E : Value → Shared → Prop} {pins : List (Addr × Obj)} {s : Shared} {σ : St} {H : Hp} {x : Str} {u : Value} {pos : Pos} {Q : Value → Shared → Prop} (I : Inv X pins σ H s) (hg : Gl X x) (hm : X.mg x = none) (hv : bootBuiltins x = some u) (h : Q u s)
    (hn : x ≠ "__name__" := by decide) (hd : (x == ("__debug__" : Str)) = false := by decide) : wpAny (model X.prog X.w) X.A (eval (.Name x pos) X.env) Q E s := by
  obtain ⟨mb, h1, h2⟩ := I.mod.blt
  exact Calls.Name_function_global I.ok.kind hg (Calls.loadGlobal_builtin (by rw [I.ok.glob]; exact I.mod.glob.keeps I.bk) hm (by rw [I.ok.blt]; exact h1.keeps I.bk) ((h2 x hn).trans hv) h) hd
theorem pe_glob {x : Str} {v : V} {u : Value} {pos : Pos} (hg : Gl X x) (hm : X.mg x = some u) (r : RelV v u) (hd : (x == ("__debug__" : Str)) = false := by decide) : PE X (.Name x pos) (tC v) :=
  fun _ _ _ H _ I h => ld_glob I hg hm ⟨v, H, I, r, h⟩ hd
theorem pe_bltn {x : Str} {v : V} {u : Value} {pos : Pos} (hg : Gl X x) (hm : X.mg x = none) (hv : bootBuiltins x = some u) (r : RelV v u) (hn : x ≠ "__name__" := by decide) (hd : (x == ("__debug__" : Str)) = false := by decide) : PE X (.Name x pos) (tC v) :=
  fun _ _ _ H _ I h => ld_blt I hg hm hv ⟨v, H, I, r, h⟩ hn hd

def t2I (ta tb : TE) (k : Int → Int → Hp → Prop) : St → Hp → Prop := fun σ H => ta σ H fun x H1 => tb σ H1 fun y H2 => ∃ i j, x = .int i ∧ y = .int j ∧ k i j H2
def tAdd (ta tb : TE) : TE := fun σ H Q => t2I ta tb (fun i j H2 => Q (.int (i + j)) H2) σ H
def tSub (ta tb : TE) : TE := fun σ H Q => t2I ta tb (fun i j H2 => Q (.int (i - j)) H2) σ H
def tMul (ta tb : TE) : TE := fun σ H Q => t2I ta tb (fun i j H2 => (-(2 ^ 64) < i ∧ i < 2 ^ 64) ∧ Q (.int (i * j)) H2) σ H
variable {a b : Expr} {ta tb : TE} {pos : Pos}
def PC (X : Cx) (op : CmpOp) (a b : Expr) (t : TE) : Prop :=
  ∀ (pins : List (Addr × Obj)) (s : Shared) (σ : St) (H : Hp) (Q : VK), Inv X pins σ H s → t σ H Q →
    wpAny (model X.prog X.w) X.A (eval a X.env) (fun v s₁ => wpAny (model X.prog X.w) X.A (eval b X.env) (fun u s₂ => wpAny (model X.prog X.w) X.A (compareOp op v u) (EP X pins σ Q) X.xe s₂) X.xe s₁) X.xe s
def tCmp (p : Int → Int → Bool) (ta tb : TE) : TE := fun σ H Q => t2I ta tb (fun i j H2 => Q (.bl (p i j)) H2) σ H
abbrev tLt : TE → TE → TE := tCmp fun i j => decide (i < j)
abbrev tLe : TE → TE → TE := tCmp fun i j => decide (i ≤ j)
abbrev tGt : TE → TE → TE := tCmp fun i j => decide (j < i)
abbrev tGe : TE → TE → TE := tCmp fun i j => decide (j ≤ i)
abbrev tEqI : TE → TE → TE := tCmp fun i j => decide (i = j)
abbrev tNeI : TE → TE → TE := tCmp fun i j => !decide (i = j)
def tIsN (ta : TE) : TE := fun σ H Q => ta σ H fun x H1 => Q (.bl (decide (x = .non))) H1
def tNotN (ta : TE) : TE := fun σ H Q => ta σ H fun x H1 => Q (.bl (!decide (x = .non))) H1
def tB (t : TE) : TT := fun σ H Q => t σ H fun x H1 => ∃ c, x = .bl c ∧ Q c H1
theorem pt_val {e : Expr} {t : TE} (h : PE X e t) (he : ∀ whole, isTrue e X.env whole = (do let v ← whole; standAt e.pos; holding [v] (truthy v)) := by intro _; rfl) : PT X e (tB t) := by
  intro pins s σ H Q I hw
  refine isTrue_plain (thn (h pins s σ H _ I hw) fun v s1 ⟨x, H1, I1, r1, q1⟩ => ?_) (he _)
  obtain ⟨d, rfl, q⟩ := q1
  cases r1
  exact wpAny_truthy_bool ⟨H1, I1, q⟩

variable {tA tB' : TT} {rest : List Expr}
def tAnd (t u : TT) : TT := fun σ H Q => t σ H fun c H1 => if c = true then u σ H1 Q else Q false H1
def tOr (t u : TT) : TT := fun σ H Q => t σ H fun c H1 => if c = true then Q true H1 else u σ H1 Q
def tNot (t : TT) : TT := fun σ H Q => t σ H fun c H1 => Q (!c) H1
theorem pw_and1 (ha : PT X a tA) : PW X (.BoolOp .And [a] pos) tA := by
  intro wh pins s σ H Q I h
  refine isTrue_and (thn (ha pins s σ H Q I h) fun c s1 e => ?_)
  cases c with
  | true => exact isTrue_and_nil e
  | false => exact e
theorem pw_or1 (ha : PT X a tA) : PW X (.BoolOp .Or [a] pos) tA := by
  intro wh pins s σ H Q I h
  refine isTrue_or (thn (ha pins s σ H Q I h) fun c s1 e => ?_)
  cases c with
  | false => exact isTrue_or_nil e
  | true => exact e
theorem pw_and (ha : PT X a tA) (hb : PW X (.BoolOp .And (b :: rest) pos) tB') : PW X (.BoolOp .And (a :: b :: rest) pos) (tAnd tA tB') := by
  intro wh pins s σ H Q I h
  refine isTrue_and (thn (ha pins s σ H _ I h) fun c s1 ⟨H1, I1, q1⟩ => ?_)
  cases c with
  | true => exact hb wh pins s1 σ H1 Q I1 q1
  | false => exact ⟨H1, I1, q1⟩
theorem pw_or (ha : PT X a tA) (hb : PW X (.BoolOp .Or (b :: rest) pos) tB') : PW X (.BoolOp .Or (a :: b :: rest) pos) (tOr tA tB') := by
  intro wh pins s σ H Q I h
  refine isTrue_or (thn (ha pins s σ H _ I h) fun c s1 ⟨H1, I1, q1⟩ => ?_)
  cases c with
  | true => exact ⟨H1, I1, q1⟩
  | false => exact hb wh pins s1 σ H1 Q I1 q1
theorem pt_not (ha : PT X a tA) : PT X (.UnaryOp .Not a pos) (tNot tA) := by
  intro pins s σ H Q I h
  exact isTrue_not (ha pins s σ H (fun c H1 => Q (!c) H1) I h)
def tAndV (ta tb : TE) : TE := fun σ H Q => ta σ H fun x H1 => ∃ c, x = .bl c ∧ if c = true then tb σ H1 Q else Q (.bl false) H1
def tOrV (ta tb : TE) : TE := fun σ H Q => ta σ H fun x H1 => ∃ c, x = .bl c ∧ if c = true then Q (.bl true) H1 else tb σ H1 Q
def tNotV (ta : TE) : TE := fun σ H Q => ta σ H fun x H1 => ∃ c, x = .bl c ∧ Q (.bl (!c)) H1
theorem pe_one {op} {t : TE} (h : PE X a t) : PE X (.BoolOp op [a] pos) t := fun pins s σ H Q I hw => BoolOp_one (h pins s σ H Q I hw)
theorem pe_and (ha : PE X a ta) (hb : PE X (.BoolOp .And (b :: rest) pos) tb) : PE X (.BoolOp .And (a :: b :: rest) pos) (tAndV ta tb) := by
  intro pins s σ H Q I h
  refine BoolOp_and (thn (ha pins s σ H _ I h) fun v s1 ⟨x, H1, I1, r1, q1⟩ => ?_)
  obtain ⟨c, rfl, q1⟩ := q1
  cases r1
  refine wpAny_truthy_bool ?_
  cases c with
  | true => exact hb pins s1 σ H1 Q I1 q1
  | false => exact ⟨.bl false, H1, I1, rfl, q1⟩
theorem pe_not (ha : PE X a ta) : PE X (.UnaryOp .Not a pos) (tNotV ta) := by
  intro pins s σ H Q I h
  refine UnaryOp_ (thn (ha pins s σ H _ I h) fun v s1 ⟨x, H1, I1, r1, q1⟩ => ?_)
  obtain ⟨c, rfl, q1⟩ := q1
  cases r1
  exact not_of (wpAny_truthy_bool ⟨.bl (!c), H1, I1, rfl, q1⟩)
def tIf (t : TT) (ta tb : TE) : TE := fun σ H Q => t σ H fun c H1 => if c = true then ta σ H1 Q else tb σ H1 Q
theorem pe_ifExp {c : Expr} (hc : PT X c tA) (ha : PE X a ta) (hb : PE X b tb) : PE X (.IfExp c a b pos) (tIf tA ta tb) := by
  intro pins s σ H Q I h
  refine wpAny_IfExp (thn (hc pins s σ H _ I h) fun d s1 ⟨H1, I1, q1⟩ => ?_)
  cases d with
  | true => exact ha pins s1 σ H1 Q I1 q1
  | false => exact hb pins s1 σ H1 Q I1 q1
end
end L2

namespace L2
open PySem PySem.Spec PyProof.Rows

def SqL (K : PySem.W.Frag) (H : Hp) (a : Addr) (xs : List V) : Prop :=
  Rd H a (.lst xs) ∨
    ∃ (o : Obj) (its : Array Value) (n : Nat), K.lookup a = some o ∧ o.cls = .type "list" ∧ o.dict = none ∧ o.data = .seq its n ∧ its.size ≤ sizeLine ∧ Vals xs its.toList
def SqT (K : PySem.W.Frag) (H : Hp) (a : Addr) (xs : List V) : Prop :=
  Rd H a (.tup xs) ∨
    ∃ (o : Obj) (its : Array Value) (n : Nat), K.lookup a = some o ∧ o.cls = .type "tuple" ∧ o.data = .seq its n ∧ its.size ≤ sizeLine ∧ Vals xs its.toList
def absV : Value → Option V
  | .none => some .non
  | .bool b => some (.bl b)
  | .int i _ => some (.int i)
  | .str x _ => some (.str x)
  | .bytes b _ => some (.byt b)
  | .float b _ => some (.flt b)
  | .ref a => some (.ref a)
  | .type n => some (.ty n)
  | _ => none
theorem RelV.abs {x : V} {u : Value} (r : RelV x u) : absV u = some x := by
  cases x with
  | non => cases r; rfl
  | bl _ => cases r; rfl
  | int _ => obtain ⟨t, rfl⟩ := r; rfl
  | str _ => obtain ⟨t, rfl⟩ := r; rfl
  | byt _ => obtain ⟨t, rfl⟩ := r; rfl
  | flt _ => obtain ⟨t, rfl⟩ := r; rfl
  | ref _ => cases r; rfl
  | ty _ => cases r; rfl
theorem RelV.inj {x y : V} {u : Value} (r : RelV x u) (q : RelV y u) : x = y := Option.some.inj (r.abs.symm.trans q.abs)
theorem Vals.inj : ∀ {xs ys : List V} {us : List Value}, Vals xs us → Vals ys us → xs = ys
  | _, _, _, .nil, .nil => rfl
  | _, _, _, .cons r t, .cons r' t' => by rw [r.inj r', Vals.inj t t']
section
variable {X : Cx} {pins : List (Addr × Obj)} {σ : St} {H : Hp} {s : Shared} {a : Addr} {xs ys : List V}
theorem SqL.of {K : PySem.W.Frag} (h : H a = some (.lst xs)) : SqL K H a xs := .inl (.inl h)
theorem SqT.of {K : PySem.W.Frag} (h : H a = some (.tup xs)) : SqT K H a xs := .inl (.inl h)
theorem Inv.list (I : Inv X pins σ H s) (h : SqL X.K H a xs) : ∃ its : List Value, Vals xs its ∧ PlainL s.heap a its.toArray ∧ xs.length ≤ sizeLine := by
  rcases h with h | ⟨o, its, n, hk, hc, hd, hs, hz, r⟩
  · obtain ⟨z, its, n, r, e⟩ := h.ok I.hok
    exact ⟨its, r, ⟨_, n, e, rfl, rfl, rfl⟩, z⟩
  · refine ⟨its.toList, r, ⟨o, n, I.kIn a o hk, hc, hd, by simpa using hs⟩, ?_⟩
    have e := r.length
    simp only [Array.length_toList] at e
    omega
theorem Inv.tuple (I : Inv X pins σ H s) (h : SqT X.K H a xs) : ∃ its : List Value, Vals xs its ∧ IsTup s.heap a its.toArray ∧ xs.length ≤ sizeLine := by
  rcases h with h | ⟨o, its, n, hk, hc, hs, hz, r⟩
  · obtain ⟨z, its, r, p⟩ := h.ok I.hok
    exact ⟨its, r, p, z⟩
  · refine ⟨its.toList, r, ⟨o, I.kIn a o hk, hc, n, by simpa using hs⟩, ?_⟩
    have e := r.length
    simp only [Array.length_toList] at e
    omega
theorem Inv.list_inj (I : Inv X pins σ H s) (h : SqL X.K H a xs) (h' : SqL X.K H a ys) : xs = ys := by
  obtain ⟨its, r, ⟨o, n, e, _, _, d⟩, _⟩ := I.list h
  obtain ⟨its', r', ⟨o', n', e', _, _, d'⟩, _⟩ := I.list h'
  rw [e] at e'; cases e'
  rw [d] at d'
  injection d' with d1 _
  have : its = its' := by simpa using congrArg Array.toList d1
  subst this
  exact r.inj r'
theorem Inv.tuple_inj (I : Inv X pins σ H s) (h : SqT X.K H a xs) (h' : SqT X.K H a ys) : xs = ys := by
  obtain ⟨its, r, ⟨o, e, _, n, d⟩, _⟩ := I.tuple h
  obtain ⟨its', r', ⟨o', e', _, n', d'⟩, _⟩ := I.tuple h'
  rw [e] at e'; cases e'
  rw [d] at d'
  injection d' with d1 _
  have : its = its' := by simpa using congrArg Array.toList d1
  subst this
  exact r.inj r'
end

abbrev Cx.wish (X : Cx) (E : Value → Shared → Prop) : Cx := { X with xe := E }
abbrev Cx.nox (X : Cx) : Cx := X.wish fun _ _ => False
theorem Cx.Ok.wish {X : Cx} (ok : X.Ok) (E : Value → Shared → Prop) : (X.wish E).Ok :=
  ⟨ok.mod, ok.kind, ok.glob, ok.blt, ok.above, ok.inj, ok.has, ok.cab, ok.hd, ok.frames, ok.stk, ok.exf, ok.bs, ok.bsz, ok.noex, ok.exfs, ok.funs, ok.frf⟩
theorem Cx.Ok.unwish {X : Cx} {E : Value → Shared → Prop} (ok : (X.wish E).Ok) : X.Ok :=
  ⟨ok.mod, ok.kind, ok.glob, ok.blt, ok.above, ok.inj, ok.has, ok.cab, ok.hd, ok.frames, ok.stk, ok.exf, ok.bs, ok.bsz, ok.noex, ok.exfs, ok.funs, ok.frf⟩
section
variable {X : Cx} {pins : List (Addr × Obj)} {σ : St} {H : Hp} {s : Shared} {E : Value → Shared → Prop}
theorem Inv.wish (I : Inv X pins σ H s) (E : Value → Shared → Prop) : Inv (X.wish E) pins σ H s := ⟨I.ok.wish E, I.os, I.bare, I.base, I.loc, I.cell, I.free, I.freeC, I.pin, I.hok, I.len⟩
theorem Inv.unwish (I : Inv (X.wish E) pins σ H s) : Inv X pins σ H s := ⟨I.ok.unwish, I.os, I.bare, I.base, I.loc, I.cell, I.free, I.freeC, I.pin, I.hok, I.len⟩
theorem SP.unwish {D : Ends} {f : Flow} {s' : Shared} (h : SP (X.wish E) pins D f s') : SP X pins D f s' := by
  cases f with
  | next => obtain ⟨σ', H', I, q⟩ := h; exact ⟨σ', H', I.unwish, q⟩
  | brk => obtain ⟨σ', H', I, q⟩ := h; exact ⟨σ', H', I.unwish, q⟩
  | cont => obtain ⟨σ', H', I, q⟩ := h; exact ⟨σ', H', I.unwish, q⟩
  | ret u => obtain ⟨v, σ', H', I, r, q⟩ := h; exact ⟨v, σ', H', I.unwish, r, q⟩
theorem PE.nox {e : Expr} {t : TE} (h : PE X.nox e t) : PE X e t := fun pins s σ H Q I hw =>
  wpAny_mono (h pins s σ H Q (I.wish _) hw) (fun _ _ ⟨v, H', I', r, q⟩ => ⟨v, H', I'.unwish, r, q⟩) fun _ _ z => False.elim z
theorem PT.nox {e : Expr} {t : TT} (h : PT X.nox e t) : PT X e t := fun pins s σ H Q I hw =>
  wpAny_mono (h pins s σ H Q (I.wish _) hw) (fun _ _ ⟨H', I', q⟩ => ⟨H', I'.unwish, q⟩) fun _ _ z => False.elim z
theorem PSs.nox {st : List Stmt} {t : TS} (h : PSs X.nox st t) : PSs X st t := fun pins s σ H D I hw =>
  wpAny_mono (h pins s σ H D (I.wish _) hw) (fun _ _ q => q.unwish) fun _ _ z => False.elim z
end

section
variable {X : Cx} {st : Stmt} {rest : List Stmt} {t u : TS} {e : Expr} {te : TE} {pos : Pos}
def tNext : TS := fun D σ H => D.nx σ H
def tSeq (t u : TS) : TS := fun D σ H => t { D with nx := u D } σ H
theorem pss_nil : PSs X [] tNext := fun _ _ σ H _ I h => wpAny_execs_nil ⟨σ, H, I, h⟩
theorem pss_cons (h1 : PS X st t) (h2 : PSs X rest u) : PSs X (st :: rest) (tSeq t u) := by
  intro pins s σ H D I h
  refine wpAny_execs_cons (thn (h1 pins s σ H { D with nx := u D } I h) fun f s1 q => ?_)
  cases f with
  | next =>
    obtain ⟨σ', H', I', q⟩ := q
    exact h2 pins s1 σ' H' D I' q
  | ret v => exact q
  | brk => exact q
  | cont => exact q
theorem pss_one (h1 : PS X st t) : PSs X [st] t := by
  intro pins s σ H D I h
  refine wpAny_execs_cons (thn (h1 pins s σ H D I h) fun f s1 q => ?_)
  cases f with
  | next => exact wpAny_execs_nil q
  | ret v => exact q
  | brk => exact q
  | cont => exact q
def tBreak : TS := fun D σ H => D.bk σ H
def tCont : TS := fun D σ H => D.ct σ H
theorem Inv.quiet {pins : List (Addr × Obj)} {σ : St} {H : Hp} {s : Shared} (I : Inv X pins σ H s) : interactive X.env = false := by simp [interactive, I.ok.kind]
def tDrop (te : TE) : TS := fun D σ H => te σ H fun _ H1 => D.nx σ H1
theorem ps_expr (he : PE X e te) (hs : swapsWith e none pos.line X.env = pure false := by rfl) : PS X (.Expr e pos) (tDrop te) := by
  intro pins s σ H D I h
  exact wpAny_Expr_any (thn (he pins s σ H _ I h) fun v s1 ⟨x, H1, I1, r1, q1⟩ => ⟨σ, H1, I1, q1⟩) I.quiet hs
def tRet (te : TE) : TS := fun D σ H => te σ H D.rt
theorem ps_ret (he : PE X e te) : PS X (.Return (some e) pos) (tRet te) := by
  intro pins s σ H D I h
  exact wpAny_Return_some (thn (he pins s σ H _ I h) fun v s1 ⟨x, H1, I1, r1, q1⟩ => ⟨x, σ, H1, I1, r1, q1⟩)
def tRetN : TS := fun D _ H => D.rt .non H
def tIfS (c : TT) (t u : TS) : TS := fun D σ H => c σ H fun b H1 => if b = true then t D σ H1 else u D σ H1
theorem ps_if {c : Expr} {a b : List Stmt} {tc : TT} (hc : PT X c tc) (ha : PSs X a t) (hb : PSs X b u) : PS X (.If c a b pos) (tIfS tc t u) := by
  intro pins s σ H D I h
  refine wpAny_If (thn (hc pins s σ H _ I h) fun d s1 ⟨H1, I1, q1⟩ => ?_)
  cases d with
  | true => exact ha pins s1 σ H1 D I1 q1
  | false => exact hb pins s1 σ H1 D I1 q1
def tNever : TS := fun _ _ _ => False
theorem ps_never : PS X st tNever := fun _ _ _ _ _ _ h => h.elim
end

abbrev TG := V → St → Hp → (St → Hp → Prop) → Prop
abbrev TGs := List V → St → Hp → (St → Hp → Prop) → Prop
def PG (X : Cx) (target : Expr) (t : TG) : Prop :=
  ∀ (pins : List (Addr × Obj)) (s : Shared) (σ : St) (H : Hp) (v : V) (u : Value) (Q : St → Hp → Prop), Inv X pins σ H s → RelV v u → t v σ H Q →
    wpAny (model X.prog X.w) X.A (assign target X.env u) (fun _ s' => ∃ σ' H', Inv X pins σ' H' s' ∧ Q σ' H') X.xe s
def PGs (X : Cx) (ts : List Expr) (t : TGs) : Prop :=
  ∀ (pins : List (Addr × Obj)) (s : Shared) (σ : St) (H : Hp) (vs : List V) (us : List Value) (Q : St → Hp → Prop), Inv X pins σ H s → Vals vs us → t vs σ H Q →
    wpAny (model X.prog X.w) X.A (assignInOrder ((assignEach ts X.env).map (·.2)) us) (fun _ s' => ∃ σ' H', Inv X pins σ' H' s' ∧ Q σ' H') X.xe s
abbrev TSet := V → V → V → Hp → (Hp → Prop) → Prop
def PSet (X : Cx) (t : TSet) : Prop :=
  ∀ (pins : List (Addr × Obj)) (s : Shared) (σ : St) (H : Hp) (o i v : V) (ov iv u : Value) (Q : Hp → Prop), Inv X pins σ H s → RelV o ov → RelV i iv → RelV v u → t o i v H Q →
    wpAny (model X.prog X.w) X.A (setItem ov iv u) (fun _ s' => ∃ H', Inv X pins σ H' s' ∧ Q H') X.xe s
abbrev TIp := V → V → Hp → VK → Prop
def PIp (X : Cx) (op : Operator) (t : TIp) : Prop :=
  ∀ (pins : List (Addr × Obj)) (s : Shared) (σ : St) (H : Hp) (x y : V) (v u : Value) (Q : VK), Inv X pins σ H s → RelV x v → RelV y u → t x y H Q →
    wpAny (model X.prog X.w) X.A (inplaceOp op v u) (EP X pins σ Q) X.xe s
section
variable {X : Cx} {pos : Pos}
def gName (i : Nat) : TG := fun v σ H Q => Q (σ.set i (some v)) H
theorem pg_name {i : Nat} {x : Str} (hN : X.N.Nodup) (hi : X.N[i]? = some x) (hx : Loc X.env.scope x) (hf : X.fn x = true ∨ X.env.scope.names.lookup x = some .local := by first | exact .inl rfl | exact .inr rfl | assumption) : PG X (.Name x pos) (gName i) := by
  intro pins s σ H v u Q I r h
  exact wpAny_assign_Name (store_ok I hN hi hx r (fun s' I' => ⟨_, H, I', h⟩) hf)
def gNil : TGs := fun vs σ H Q => vs = [] ∧ Q σ H
def gCons (t : TG) (u : TGs) : TGs := fun vs σ H Q => ∃ v r, vs = v :: r ∧ t v σ H fun σ' H' => u r σ' H' Q
theorem pgs_nil : PGs X [] gNil := by
  intro pins s σ H vs us Q I r h
  obtain ⟨e, h⟩ := h
  subst e
  cases r
  exact assignInOrder_nil ⟨σ, H, I, h⟩
theorem pgs_cons {e : Expr} {es : List Expr} {t : TG} {u : TGs} (h1 : PG X e t) (h2 : PGs X es u)
    (hs : (assignEach (e :: es) X.env).map (·.2) = assign e X.env :: (assignEach es X.env).map (·.2) := by rfl) : PGs X (e :: es) (gCons t u) := by
  intro pins s σ H vs us Q I r h
  obtain ⟨v, vr, e1, h⟩ := h
  subst e1
  cases r with
  | cons r rr =>
    rw [hs]
    refine assignInOrder_cons (thn (h1 pins s σ H _ _ _ I r h) fun _ s1 ⟨σ1, H1, I1, q1⟩ => ?_)
    exact h2 pins s1 σ1 H1 _ _ Q I1 rr q1
def gTup (K : PySem.W.Frag) (n : Nat) (t : TGs) : TG := fun v σ H Q => ∃ a xs, v = .ref a ∧ SqT K H a xs ∧ xs.length = n ∧ t xs σ H Q
theorem pg_tup {es : List Expr} {k : Nat} {t : TGs} {n : Nat} (hc : X.calm = true) (h : PGs X es t)
    (hn : (assignEach es X.env).length = n := by rfl) (hst : (assignEach es X.env).findIdx? (·.1) = none := by rfl) : PG X (.Tuple es k pos) (gTup X.K n t) := by
  intro pins s σ H v u Q I r hw
  obtain ⟨a, xs, e1, hq, hl, hw⟩ := hw
  subst e1
  cases r
  obtain ⟨its, rv, ht, hz⟩ := I.tuple hq
  refine assign_Tuple_tuple (I.ok.hd hc) ht (by simp [hn, ← hl, rv.length]) hst fun h' hx => ?_
  have I1 : Inv X pins σ H { s with heap := h' } := I.kept (t' := s.toks) fun b o e => hx b o (Nat.ne_of_lt (Heap.lt_size e)) e
  exact h pins _ σ H xs _ Q I1 (by simpa using rv) hw
def gSub (to ti : TE) (t : TSet) : TG := fun v σ H Q => to σ H fun o H1 => ti σ H1 fun i H2 => t o i v H2 fun H3 => Q σ H3
def tAsg (te : TE) (g : TG) : TS := fun D σ H => te σ H fun x H1 => g x σ H1 D.nx
theorem ps_set {i : Nat} {x : Str} {e : Expr} {te : TE} {pos' : Pos} (hN : X.N.Nodup) (hi : X.N[i]? = some x) (hx : Loc X.env.scope x) (he : PE X e te) (hs : swapsWith e (some (.Name x pos')) pos.line X.env = pure false := by rfl) (hf : X.fn x = true ∨ X.env.scope.names.lookup x = some .local := by first | exact .inl rfl | exact .inr rfl | assumption) :
    PS X (.Assign [.Name x pos'] e pos) (tAsg te (gName i)) := by
  intro pins s σ H D I h
  refine wpAny_Assign_Name (thn (he pins s σ H _ I h) fun v s1 ⟨y, H1, I1, r1, q1⟩ => ?_) hs
  exact store_ok I1 hN hi hx r1 (fun s2 I2 => ⟨_, H1, I2, q1⟩) hf
def tPar (i j : Nat) (ta : TA) : TS := fun D σ H => ta σ H fun vs H1 => ∃ v w, vs = [v, w] ∧ D.nx ((σ.set i (some v)).set j (some w)) H1
def tAug (i : Nat) (te : TE) (ti : TIp) : TS := fun D σ H => ∃ x, σ[i]? = some (some x) ∧ te σ H fun y H1 => ti x y H1 fun z H2 => D.nx (σ.set i (some z)) H2
theorem ps_aug {i : Nat} {x : Str} {e : Expr} {te : TE} {op : Operator} {ti : TIp} {pos' : Pos} (hN : X.N.Nodup) (hi : X.N[i]? = some x) (hx : Loc X.env.scope x) (he : PE X e te) (ho : PIp X op ti) (hf : X.fn x = true ∨ X.env.scope.names.lookup x = some .local := by first | exact .inl rfl | exact .inr rfl | assumption) :
    PS X (.AugAssign (.Name x pos') op e pos) (tAug i te ti) := by
  intro pins s σ H D I h
  obtain ⟨v, e1, h⟩ := h
  obtain ⟨m, hn, hl⟩ := I.loc
  have vis : Vis X.env.scope x := by rcases hx with k | k; exact .inl k; exact .inr (.inl k)
  obtain ⟨u, r, l⟩ := hl i x v hi e1 vis
  refine wpAny_AugAssign_Name ?_
  have go : wpAny (model X.prog X.w) X.A (eval e X.env) (fun w s₂ => wpAny (model X.prog X.w) X.A (inplaceOp op u w) (fun r s₃ => wpAny (model X.prog X.w) X.A (storeName X.env x r) (fun _ => SP X pins D .next) X.xe s₃) X.xe s₂) X.xe s := by
    refine thn (he pins s σ H _ I h) fun w s1 ⟨y, H1, I1, r1, q1⟩ => ?_
    refine thn (ho pins s1 σ H1 v y u w _ I1 r r1 q1) fun z s2 ⟨zv, H2, I2, r2, q2⟩ => ?_
    exact store_ok I2 hN hi hx r2 (fun s3 I3 => ⟨_, H2, I3, q2⟩) hf
  rcases l with ⟨hk, hm⟩ | ⟨hk, c, hc, hcell⟩
  · exact wpAny_loadName_local I.ok.kind hk hn hm go
  · rcases hk with hk | hk
    · exact wpAny_loadName_cell I.ok.kind hk hc hcell go
    · rcases hx with k | k
      · have : X.env.scope.names.lookup x = some .free := hk
        rw [k] at this; cases this
      · have : X.env.scope.names.lookup x = some .free := hk
        rw [k] at this; cases this
def tAugS (to ti te : TE) (tget : V → V → Hp → VK → Prop) (tip : TIp) (tset : TSet) : TS := fun D σ H => to σ H fun o H1 => ti σ H1 fun i H2 => tget o i H2 fun x H3 => te σ H3 fun y H4 => tip x y H4 fun z H5 => tset o i z H5 fun H6 => D.nx σ H6
def PGet (X : Cx) (t : V → V → Hp → VK → Prop) : Prop :=
  ∀ (pins : List (Addr × Obj)) (s : Shared) (σ : St) (H : Hp) (o i : V) (ov iv : Value) (Q : VK), Inv X pins σ H s → RelV o ov → RelV i iv → t o i H Q →
    wpAny (model X.prog X.w) X.A (getItem ov iv) (EP X pins σ Q) X.xe s
def ipI (f : Int → Int → Int) : TIp := fun x y H Q => ∃ i j, x = .int i ∧ y = .int j ∧ Q (.int (f i j)) H
end

section
variable {X : Cx} {pos : Pos}
def tWhile (c : TT) (tb : TS) : TS := fun D σ H => ∃ W : Nat → St → Hp → Prop, (∃ m, W m σ H) ∧ ∀ m σ H, W m σ H →
  c σ H fun b H1 => if b = true then ∃ N : St → Hp → Prop, (∀ σ' H', N σ' H' → ∃ m', m' < m ∧ W m' σ' H') ∧ tb { D with nx := N, ct := N, bk := D.nx } σ H1 else D.nx σ H1
end

structure It where
  go : Nat → Hp → Prop
  yld : Nat → Hp → V → Hp → Prop
  stop : Nat → Hp → Prop
def FpOk (X : Cx) (pins : List (Addr × Obj)) (H : Hp) (b : Addr) : Prop :=
  H b = none ∧ b ≠ X.env.locals ∧ b ∉ X.fs ∧ (b ∈ X.ex ∨ X.s₀.heap.objs.size ≤ b) ∧ (∀ x c, X.env.cells.lookup x = some c → c ≠ b) ∧ ∀ p ∈ X.pn ++ pins, p.1 ≠ b
theorem Inv.fpOk {X : Cx} {pins : List (Addr × Obj)} {σ : St} {H H' : Hp} {s : Shared} {b : Addr} (I : Inv X pins σ H s) (hb : s.heap.objs.size ≤ b) (hn : H' b = none) : FpOk X pins H' b := by
  refine ⟨hn, Nat.ne_of_gt (Nat.lt_of_lt_of_le I.lt hb), I.nofs hb, .inr (Nat.le_trans I.sz hb), fun x c e z => ?_, fun p hp z => ?_⟩
  · obtain ⟨v, q⟩ := I.cell x c e
    exact absurd (Nat.lt_of_lt_of_le q.lt (by rw [z]; exact hb)) (Nat.lt_irrefl _)
  · exact absurd (Nat.lt_of_lt_of_le (Heap.lt_size (I.pin p hp).1) (by rw [z]; exact hb)) (Nat.lt_irrefl _)
structure Turn (P : Program) (w : World) (K : PySem.W.Frag) (tg : Expr) (J : It) (fp : List Addr) (it : Addr) (tn : Nat → Heap → Prop) : Prop where
  mem : it ∈ fp
  obj : ∀ i h, tn i h → ∀ b ∈ fp, ∃ o, h.get? b = some o ∧ ∀ v, o.data ≠ .cell v
  keep : ∀ i h h', tn i h → (∀ b ∈ fp, ∀ o, h.get? b = some o → h'.get? b = some o) → tn i h'
  item : ∀ (X : Cx), X.prog = P → X.w = w → X.K = K → X.calm = true → ∀ (i : Nat) (pins : List (Addr × Obj)) (s : Shared) (σ : St) (H : Hp) (E : Value → Shared → Prop), Inv X pins σ H s → (∀ b ∈ fp, FpOk X pins H b) → tn i s.heap → J.go i H →
    wpAny (model P w) X.A (pyNext (.ref it)) (fun r s1 => ∃ u, r = some u ∧
      wpAny (model P w) X.A (letOwnedTupleGo tg (.ref it) u) (fun _ s2 => ∃ x H', Inv X pins σ H' s2 ∧ RelV x u ∧ J.yld i H x H' ∧ tn (i + 1) s2.heap ∧ ∀ b ∈ fp, H' b = none) E s1) E s
  done : ∀ (X : Cx), X.prog = P → X.w = w → X.K = K → X.calm = true → ∀ (i : Nat) (pins : List (Addr × Obj)) (s : Shared) (σ : St) (H : Hp) (E : Value → Shared → Prop), Inv X pins σ H s → (∀ b ∈ fp, FpOk X pins H b) → tn i s.heap → J.stop i H →
    wpAny (model P w) X.A (pyNext (.ref it)) (fun r s1 => r = none ∧ Inv X pins σ H s1) E s
  self : ∀ (A : Around) (i : Nat) (s : Shared) (Q : Value → Shared → Prop) (E : Value → Shared → Prop), tn i s.heap → Q (.ref it) s → wpAny (model P w) A (pyIter (.ref it)) Q E s
abbrev TI := St → Hp → (It → Hp → Prop) → Prop
def PIE (X : Cx) (pins : List (Addr × Obj)) (σ : St) (tg : Expr) (R : It → Hp → Prop) (itv : Value) (s2 : Shared) : Prop :=
  ∃ (it : Addr) (fp : List Addr) (tn : Nat → Heap → Prop) (J : It) (H' : Hp), itv = .ref it ∧ Inv X pins σ H' s2 ∧ Turn X.prog X.w X.K tg J fp it tn ∧ tn 0 s2.heap ∧ (∀ b ∈ fp, FpOk X pins H' b) ∧ R J H'
def PI (X : Cx) (tg iter : Expr) (wi : TI) : Prop :=
  ∀ (pins : List (Addr × Obj)) (s : Shared) (σ : St) (H : Hp) (R : It → Hp → Prop), Inv X pins σ H s → wi σ H R →
    wpAny (model X.prog X.w) X.A (eval iter X.env) (fun v s1 => wpAny (model X.prog X.w) X.A (pyIter v) (PIE X pins σ tg R) X.xe s1) X.xe s

theorem go_of {M : Model} {A : Around} {E : Value → Shared → Prop} {s : Shared} {tg : Expr} {it : Addr} {u : Value} {o : Obj} {n : String} {vs : Array Value} {Q : Unit → Shared → Prop} (ho : s.heap.get? it = some o) (hc : o.cls = .type n) (hd : o.data = .fields vs)
    (hn : ["enumerate", "zip", "dict_itemiterator", "dict_reverseitemiterator", "odict_iterator", "itertools.zip_longest", "itertools.pairwise"].contains n = false) (hQ : Q () s) : wpAny M A (letOwnedTupleGo tg (.ref it) u) Q E s := by
  unfold letOwnedTupleGo
  cases tg <;> first
    | exact wpAny_pure hQ
    | (cases u <;> first
        | exact wpAny_pure hQ
        | (refine wpAny_bind (wpAny_load ho ?_)
           rw [hc, hd]
           show wpAny M A (if (["enumerate", "zip", "dict_itemiterator", "dict_reverseitemiterator", "odict_iterator", "itertools.zip_longest", "itertools.pairwise"].contains n && vs[0]? == some (rawInt _)) = true then _ else _) Q E s
           rw [if_neg (by intro h; rw [hn, Bool.false_and] at h; cases h)]
           exact wpAny_pure hQ))

def Itl (K : PySem.W.Frag) (a : Addr) : It :=
  ⟨fun i H => ∃ xs x, SqL K H a xs ∧ xs[i]? = some x, fun i H x H' => H' = H ∧ ∀ xs, SqL K H a xs → xs[i]? = some x, fun i H => ∃ xs, SqL K H a xs ∧ xs.length ≤ i⟩
def Itt (K : PySem.W.Frag) (a : Addr) : It :=
  ⟨fun i H => ∃ xs x, SqT K H a xs ∧ xs[i]? = some x, fun i H x H' => H' = H ∧ ∀ xs, SqT K H a xs → xs[i]? = some x, fun i H => ∃ xs, SqT K H a xs ∧ xs.length ≤ i⟩
def Itr (lo : Int) (n : Nat) : It := ⟨fun i _ => i < n, fun i H x H' => H' = H ∧ x = .int (lo + i), fun i _ => n ≤ i⟩
theorem turn_list {P : Program} {w : World} {K : PySem.W.Frag} {tg : Expr} (a it : Addr) : Turn P w K tg (Itl K a) [it] it (fun i h => h.IsListIter it a i) where
  mem := by simp
  obj := fun i h st b hb => by
    have e : b = it := by simpa using hb
    subst e
    obtain ⟨o, e, c, d⟩ := st
    exact ⟨o, e, fun v z => by rw [d] at z; cases z⟩
  keep := fun i h h' st k => st.at fun o e => k it (by simp) o e
  item := by
    intro X hP hw hK hc i pins s σ H E I hf st hg
    subst hP hw hK
    obtain ⟨xs, x, hq, hx⟩ := hg
    obtain ⟨its, rv, p, hz⟩ := I.list hq
    obtain ⟨u, hu, ru⟩ := rv.get hx
    obtain ⟨f0, f1, f2, f3, f4, f5⟩ := hf it (by simp)
    refine wpAny_pyNext_list_item st p.isList (x := u) (by simpa using hu) fun h' st' sb => ?_
    have I1 : Inv X pins σ H { s with heap := h' } := I.turned (t' := s.toks) (fun b o hb e => (sb.2 b hb).trans e) f0 f1 f3 f4 f5
    obtain ⟨o, e, c, d⟩ := id st'
    exact ⟨u, rfl, go_of (s := { s with heap := h' }) e c d (by decide) ⟨x, H, I1, ru, ⟨rfl, fun ys hy => by rw [I.list_inj hy hq]; exact hx⟩, st', fun b hb => (hf b hb).1⟩⟩
  done := by
    intro X hP hw hK hc i pins s σ H E I hf st hg
    subst hP hw hK
    obtain ⟨xs, hq, hx⟩ := hg
    obtain ⟨its, rv, p, hz⟩ := I.list hq
    obtain ⟨f0, f1, f2, f3, f4, f5⟩ := hf it (by simp)
    have hl := rv.length
    exact wpAny_pyNext_list_end (I.ok.hd hc) st p.isList (by simp; omega) fun h' eb => ⟨rfl, I.turned (t' := s.toks) (fun b o hb e => eb b o hb e) f0 f1 f3 f4 f5⟩
  self := fun _ _ _ _ _ st h => wpAny_pyIter_listiter st h
theorem turn_range {P : Program} {w : World} {K : PySem.W.Frag} {tg : Expr} (it : Addr) (lo : Int) (n : Nat) : Turn P w K tg (Itr lo n) [it] it (fun i h => IsRangeIter h it (lo + (i : Nat) * 1) ((n : Int) - (i : Nat)) 1) where
  mem := by simp
  obj := fun i h st b hb => by
    have e : b = it := by simpa using hb
    subst e
    exact ⟨_, st, fun v z => by
      have z' : Data.fields _ = Data.cell v := z
      cases z'⟩
  keep := fun i h h' st k => k it (by simp) _ st
  item := by
    intro X hP hw hK hc i pins s σ H E I hf st hg
    subst hP hw hK
    obtain ⟨f0, f1, f2, f3, f4, f5⟩ := hf it (by simp)
    have W := Walks.range (prog := X.prog) (w := X.w) (I.ok.hd hc) it lo 1 n
    refine W.item i s _ _ hg st fun v h' tk hv st' kk => ?_
    obtain ⟨t, rfl⟩ := hv
    have I1 : Inv X pins σ H { s with heap := h', toks := tk } := I.turned (fun b o hb e => kk b o (by simpa using hb) e) f0 f1 f3 f4 f5
    refine ⟨_, rfl, go_of (s := { s with heap := h', toks := tk }) (n := "range_iterator") st' rfl rfl (by decide) ⟨.int (lo + i), H, I1, ⟨t, ?_⟩, ⟨rfl, rfl⟩, st', fun b hb => (hf b hb).1⟩⟩
    rw [Int.mul_one]
  done := by
    intro X hP hw hK hc i pins s σ H E I hf st hg
    subst hP hw hK
    obtain ⟨f0, f1, f2, f3, f4, f5⟩ := hf it (by simp)
    exact wpAny_pyNext_range_end (I.ok.hd hc) st (by have : n ≤ i := hg; omega) fun h' eb => ⟨rfl, I.turned (t' := s.toks) (fun b o hb e => eb b o hb e) f0 f1 f3 f4 f5⟩
  self := fun _ _ _ _ _ st h => wpAny_pyIter_rangeiter st h
end L2

namespace L2
open PySem PySem.Spec PyProof.Rows
section
variable {X : Cx} {tg : Expr}
def iList (K : PySem.W.Frag) (tl : TE) : TI := fun σ H R => tl σ H fun x H1 => ∃ a, x = .ref a ∧ (∃ xs, SqL K H1 a xs) ∧ R (Itl K a) H1
def iTup (K : PySem.W.Frag) (tl : TE) : TI := fun σ H R => tl σ H fun x H1 => ∃ a, x = .ref a ∧ (∃ xs, SqT K H1 a xs) ∧ R (Itt K a) H1
theorem pi_list {l : Expr} {tl : TE} (hl : PE X l tl) : PI X tg l (iList X.K tl) := by
  intro pins s σ H R I h
  refine thn (hl pins s σ H _ I h) fun v s1 ⟨x, H1, I1, r1, q1⟩ => ?_
  obtain ⟨a, e, ⟨xs, hq⟩, q⟩ := q1
  subst e
  cases r1
  obtain ⟨its, rv, p, hz⟩ := I1.list hq
  refine wpAny_pyIter_list p.isList ?_
  refine ⟨s1.heap.objs.size, [s1.heap.objs.size], _, _, H1, rfl, I1.kept (t' := s1.toks) fun b o e => Heap.get?_push_of_some _ e, turn_list a _, ⟨_, Heap.get?_push_size _ rfl, rfl, rfl⟩, fun b hb => ?_, q⟩
  have e : b = s1.heap.objs.size := by simpa using hb
  subst e
  exact I1.fpOk (Nat.le_refl _) (I1.hok.fresh (Nat.le_refl _))
theorem range_it {pins : List (Addr × Obj)} {σ : St} {H : Hp} {s : Shared} {R : It → Hp → Prop} {E : Value → Shared → Prop} {lo hi : Int} {t u v : Tok} {tk : Nat} (I : Inv X pins σ H s) (h1 : -(2 ^ 62) ≤ lo) (h2 : lo < 2 ^ 62) (h3 : -(2 ^ 62) ≤ hi) (h4 : hi < 2 ^ 62)
    (q : R (Itr lo (hi - lo).toNat) H) : wpAny (model X.prog X.w) X.A (pyIter (.ref s.heap.objs.size)) (PIE X pins σ tg R) E { s with heap := s.heap.push { cls := .type "range", data := .fields #[.int lo t, .int hi u, .int 1 v] }, toks := tk } := by
  refine wpAny_pyIter_range (IsRange.new ..) (small_one h1 h2 h3 h4) ?_
  have I1 : Inv X pins σ H { s with heap := s.heap.push { cls := .type "range", data := .fields #[.int lo t, .int hi u, .int 1 v] }, toks := tk } := I.kept fun b o e => Heap.get?_push_of_some _ e
  refine ⟨(s.heap.push { cls := .type "range", data := .fields #[.int lo t, .int hi u, .int 1 v] }).objs.size, [(s.heap.push { cls := .type "range", data := .fields #[.int lo t, .int hi u, .int 1 v] }).objs.size], _, _, H, rfl,
    I1.kept (t' := tk) fun b o e => Heap.get?_push_of_some _ e, turn_range _ lo (hi - lo).toNat, ?_, fun b hb => ?_, q⟩
  · have e1 : lo + ((0 : Nat) : Int) * 1 = lo := by simp
    have e2 : (((hi - lo).toNat : Nat) : Int) - ((0 : Nat) : Int) = Builtin.Range.rangeSize lo hi 1 := by rw [rangeSize_one]; split <;> omega
    show IsRangeIter _ _ (lo + ((0 : Nat) : Int) * 1) ((((hi - lo).toNat : Nat) : Int) - ((0 : Nat) : Int)) 1
    rw [e1, e2]
    exact Heap.get?_push_size _ rfl
  · have e : b = (s.heap.push { cls := .type "range", data := .fields #[.int lo t, .int hi u, .int 1 v] }).objs.size := by simpa using hb
    subst e
    exact I1.fpOk (Nat.le_refl _) (I1.hok.fresh (Nat.le_refl _))
def iRng1 (ta : TA) : TI := fun σ H R => ta σ H fun vs H1 => ∃ j : Int, vs = [.int j] ∧ -(2 ^ 62) ≤ j ∧ j < 2 ^ 62 ∧ R (Itr 0 j.toNat) H1
def iRng2 (ta : TA) : TI := fun σ H R => ta σ H fun vs H1 => ∃ i j : Int, vs = [.int i, .int j] ∧ (-(2 ^ 62) ≤ i ∧ i < 2 ^ 62 ∧ -(2 ^ 62) ≤ j ∧ j < 2 ^ 62) ∧ R (Itr i (j - i).toNat) H1
theorem pi_range1 {a : Expr} {ta : TA} {p pos : Pos} (hg : Gl X "range") (hm : X.mg "range" = none) (ha : PA X [a] ta) (hs : starEach [a] X.env = [(false, eval a X.env)] := by rfl) : PI X tg (.Call (.Name "range" p) [a] [] pos) (iRng1 ta) := by
  intro pins s σ H R I h
  refine Call_ (ld_blt I hg hm boot_range (PyProof.Rows.callWith_type1 (thn (ha pos pins s σ H _ I h) fun us s1 ⟨vs, H1, I1, r1, q1⟩ => ?_) hs rfl))
  obtain ⟨j, e, q1, q2, q⟩ := q1
  subst e
  cases r1 with
  | cons r rr =>
    cases rr
    obtain ⟨t, rfl⟩ := r
    exact call_range_1 (range_it I1 (by omega) (by omega) q1 q2 (by simpa using q))
theorem pi_range2 {a b : Expr} {ta : TA} {p pos : Pos} (hg : Gl X "range") (hm : X.mg "range" = none) (ha : PA X [a, b] ta) (hs : starEach [a, b] X.env = [(false, eval a X.env), (false, eval b X.env)] := by rfl) (hs2 : starEach [b] X.env = [(false, eval b X.env)] := by rfl) :
    PI X tg (.Call (.Name "range" p) [a, b] [] pos) (iRng2 ta) := by
  intro pins s σ H R I h
  refine Call_ (ld_blt I hg hm boot_range (PyProof.Rows.callWith_type1 (thn (ha pos pins s σ H _ I h) fun us s1 ⟨vs, H1, I1, r1, q1⟩ => ?_) (by rw [hs, hs2]) (by rw [hs2]; rfl)))
  obtain ⟨i, j, e, ⟨q1, q2, q3, q4⟩, q⟩ := q1
  subst e
  cases r1 with
  | cons r rr =>
    cases rr with
    | cons r' rr =>
      cases rr
      obtain ⟨t, rfl⟩ := r
      obtain ⟨t', rfl⟩ := r'
      exact call_range_2 (range_it I1 q1 q2 q3 q4 q)

def tFor (wi : TI) (g : TG) (tb : TS) : TS := fun D σ H => wi σ H fun J H1 => ∃ W : Nat → Nat → St → Hp → Prop, (∃ m, W 0 m σ H1) ∧ ∀ i m σ H, W i m σ H →
  (J.stop i H ∧ D.nx σ H) ∨ (J.go i H ∧ ∃ N : St → Hp → Prop, (∀ σ' H', N σ' H' → ∃ m', m' < m ∧ W (i + 1) m' σ' H') ∧ ∀ x H', J.yld i H x H' → g x σ H' fun σ2 H2 => tb { D with nx := N, ct := N, bk := D.nx } σ2 H2)
def pinsAt (fp : List Addr) (h : Heap) : List (Addr × Obj) := fp.filterMap fun b => (h.get? b).map fun o => (b, o)
theorem mem_pinsAt {fp : List Addr} {h : Heap} {b : Addr} {o : Obj} (hb : b ∈ fp) (e : h.get? b = some o) : (b, o) ∈ pinsAt fp h := List.mem_filterMap.mpr ⟨b, hb, by rw [e]; rfl⟩
theorem of_pinsAt {fp : List Addr} {h : Heap} {p : Addr × Obj} (hp : p ∈ pinsAt fp h) : p.1 ∈ fp ∧ h.get? p.1 = some p.2 := by
  obtain ⟨b, hb, e⟩ := List.mem_filterMap.mp hp
  cases q : h.get? b with
  | none => rw [q] at e; cases e
  | some o =>
    rw [q] at e
    have e' : (b, o) = p := Option.some.inj e
    subst e'
    exact ⟨hb, q⟩
theorem Inv.pinned {pins : List (Addr × Obj)} {σ : St} {H : Hp} {s : Shared} {fp : List Addr} (I : Inv X pins σ H s) (hf : ∀ b ∈ fp, FpOk X pins H b) (ho : ∀ b ∈ fp, ∃ o, s.heap.get? b = some o ∧ ∀ v, o.data ≠ .cell v) : Inv X (pins ++ pinsAt fp s.heap) σ H s :=
  I.pins_of fun p hp => (List.mem_append.mp hp).elim (fun z => I.pin p (List.mem_append_right _ z)) fun z => by
    obtain ⟨hb, e⟩ := of_pinsAt z
    obtain ⟨f0, f1, f2, _⟩ := hf p.1 hb
    obtain ⟨o, e', d⟩ := ho p.1 hb
    rw [e] at e'; cases e'
    exact ⟨e, f0, f1, f2, d⟩
theorem Inv.unpinned {pins pl : List (Addr × Obj)} {σ : St} {H : Hp} {s : Shared} (I : Inv X (pins ++ pl) σ H s) : Inv X pins σ H s := I.pins_of fun p hp => I.pin p (List.mem_append_right _ (List.mem_append_left _ hp))
theorem ps_for {iter : Expr} {body : List Stmt} {wi : TI} {g : TG} {tb : TS} {pos : Pos} (hp : PassesOwn (model X.prog X.w) X.A X.env X.xe) (hc : X.calm = true) (hi : PI X tg iter wi) (hg : PG X tg g) (hb : PSs X body tb)
    (hs : ∀ x, foldedSetIterable iter X.env x = pure x := by intro _; rfl) : PS X (.For tg iter body [] pos) (tFor wi g tb) := by
  intro pins s σ H D I h
  refine wpAny_For (thn (hi pins s σ H _ I h) fun v s1 h1 => thn h1 fun itv s2 h2 => ?_) hs
  obtain ⟨it, fp, tn, J, H2, e, I2, T, st2, f2, W, ⟨m0, w0⟩, turn⟩ := h2
  subst e
  -- what stays true of the iterator's objects through the loop
  have stat : ∀ {H' : Hp}, (∀ b ∈ fp, H' b = none) → ∀ b ∈ fp, FpOk X pins H' b := fun hn b hb => ⟨hn b hb, (f2 b hb).2⟩
  refine codeAny_forLoop_any (fun n s' => ∃ i σ' H', Inv X pins σ' H' s' ∧ tn i s'.heap ∧ (∀ b ∈ fp, H' b = none) ∧ W i n σ' H') ?_ m0 ⟨0, σ, H2, I2, st2, fun b hb => (f2 b hb).1, w0⟩
  rintro n s3 ⟨i, σ3, H3, I3, st3, fr3, w3⟩
  rcases turn i n σ3 H3 w3 with ⟨stop, qn⟩ | ⟨go, N, hN, step⟩
  · refine wpAny_passesOwn hp (thn (T.done X rfl rfl rfl hc i pins s3 σ3 H3 X.xe I3 (stat fr3) st3 stop) fun r s4 ⟨hr, I4⟩ => ?_)
    subst hr
    exact wpAny_execs_nil ⟨σ3, H3, I4, qn⟩
  · refine wpAny_passesOwn hp (thn (T.item X rfl rfl rfl hc i pins s3 σ3 H3 X.xe I3 (stat fr3) st3 go) fun r s4 ⟨u, hr, h4⟩ => ?_)
    subst hr
    refine wpAny_passesOwn hp (thn h4 fun _ s5 ⟨x, H5, I5, r5, y5, st5, fr5⟩ => ?_)
    have I5' := I5.pinned (stat fr5) (T.obj _ _ st5)
    refine wpAny_passesOwn hp (thn (hg _ s5 σ3 H5 x u _ I5' r5 (step x H5 y5)) fun _ s6 ⟨σ6, H6, I6, q6⟩ => ?_)
    refine wpAny_passesOwn hp (thn (hb _ s6 σ6 H6 _ I6 q6) fun f s7 q7 => ?_)
    have again : ∀ {σ7 : St} {H7 : Hp}, Inv X (pins ++ pinsAt fp s5.heap) σ7 H7 s7 → N σ7 H7 → ∃ m, m < n ∧ ∃ i σ' H', Inv X pins σ' H' s7 ∧ tn i s7.heap ∧ (∀ b ∈ fp, H' b = none) ∧ W i m σ' H' := fun {σ7 H7} I7 n7 => by
      obtain ⟨m', hm, w7⟩ := hN σ7 H7 n7
      refine ⟨m', hm, i + 1, σ7, H7, I7.unpinned, T.keep _ _ _ st5 fun b hb o e => (I7.pin (b, o) (List.mem_append_right _ (List.mem_append_right _ (mem_pinsAt hb e)))).1, fun b hb => ?_, w7⟩
      obtain ⟨o, e, d⟩ := T.obj _ _ st5 b hb
      exact (I7.pin (b, o) (List.mem_append_right _ (List.mem_append_right _ (mem_pinsAt hb e)))).2.1
    cases f with
    | next => obtain ⟨σ7, H7, I7, n7⟩ := q7; exact again I7 n7
    | cont => obtain ⟨σ7, H7, I7, n7⟩ := q7; exact again I7 n7
    | brk => obtain ⟨σ7, H7, I7, q7⟩ := q7; exact ⟨σ7, H7, I7.unpinned, q7⟩
    | ret v => obtain ⟨x7, σ7, H7, I7, r7, q7⟩ := q7; exact ⟨x7, σ7, H7, I7.unpinned, r7, q7⟩
end

theorem for_list {K : PySem.W.Frag} {a : Addr} {xs : List V} {g : TG} {tb : TS} {D : Ends} {σ : St} {H : Hp} (Pv : Nat → St → Hp → Prop) (h0 : Pv 0 σ H) (hl : ∀ i σ H, i ≤ xs.length → Pv i σ H → SqL K H a xs)
    (hs : ∀ i x σ H, xs[i]? = some x → Pv i σ H → g x σ H fun σ2 H2 => tb { D with nx := Pv (i + 1), ct := Pv (i + 1), bk := D.nx } σ2 H2) (hd : ∀ σ H, Pv xs.length σ H → D.nx σ H) :
    ∃ W : Nat → Nat → St → Hp → Prop, (∃ m, W 0 m σ H) ∧ ∀ i m σ H, W i m σ H →
      ((Itl K a).stop i H ∧ D.nx σ H) ∨ ((Itl K a).go i H ∧ ∃ N : St → Hp → Prop, (∀ σ' H', N σ' H' → ∃ m', m' < m ∧ W (i + 1) m' σ' H') ∧ ∀ x H', (Itl K a).yld i H x H' → g x σ H' fun σ2 H2 => tb { D with nx := N, ct := N, bk := D.nx } σ2 H2) := by
  refine ⟨fun i m σ H => m = xs.length - i ∧ i ≤ xs.length ∧ Pv i σ H, ⟨xs.length, by simp, Nat.zero_le _, h0⟩, ?_⟩
  rintro i m σ H ⟨rfl, hi, p⟩
  have q := hl i σ H hi p
  by_cases hlt : i < xs.length
  · refine .inr ⟨⟨xs, xs[i], q, by simp [hlt]⟩, Pv (i + 1), fun σ' H' p' => ⟨xs.length - (i + 1), by omega, rfl, hlt, p'⟩, fun x H' y => ?_⟩
    obtain ⟨e, y⟩ := y
    subst e
    exact hs i x σ _ (y xs q) p
  · have e : i = xs.length := by omega
    subst e
    exact .inl ⟨⟨xs, q, Nat.le_refl _⟩, hd σ H p⟩
theorem for_range {lo : Int} {n : Nat} {g : TG} {tb : TS} {D : Ends} {σ : St} {H : Hp} (Pv : Nat → St → Hp → Prop) (h0 : Pv 0 σ H)
    (hs : ∀ i σ H, i < n → Pv i σ H → g (.int (lo + i)) σ H fun σ2 H2 => tb { D with nx := Pv (i + 1), ct := Pv (i + 1), bk := D.nx } σ2 H2) (hd : ∀ σ H, Pv n σ H → D.nx σ H) :
    ∃ W : Nat → Nat → St → Hp → Prop, (∃ m, W 0 m σ H) ∧ ∀ i m σ H, W i m σ H →
      ((Itr lo n).stop i H ∧ D.nx σ H) ∨ ((Itr lo n).go i H ∧ ∃ N : St → Hp → Prop, (∀ σ' H', N σ' H' → ∃ m', m' < m ∧ W (i + 1) m' σ' H') ∧ ∀ x H', (Itr lo n).yld i H x H' → g x σ H' fun σ2 H2 => tb { D with nx := N, ct := N, bk := D.nx } σ2 H2) := by
  refine ⟨fun i m σ H => m = n - i ∧ i ≤ n ∧ Pv i σ H, ⟨n, by simp, Nat.zero_le _, h0⟩, ?_⟩
  rintro i m σ H ⟨rfl, hi, p⟩
  by_cases hlt : i < n
  · refine .inr ⟨hlt, Pv (i + 1), fun σ' H' p' => ⟨n - (i + 1), by omega, rfl, hlt, p'⟩, fun x H' y => ?_⟩
    obtain ⟨e, y⟩ := y
    subst e y
    exact hs i σ _ hlt p
  · have e : i = n := by omega
    subst e
    exact .inl ⟨Nat.le_refl _, hd σ H p⟩
end L2

namespace L2
open PySem PySem.Spec PyProof.Rows

abbrev R2 := V → V → Hp → VK → Prop
def OpR (X : Cx) (f : Value → Value → Sem Value) (r : R2) : Prop :=
  ∀ (pins : List (Addr × Obj)) (s : Shared) (σ : St) (H : Hp) (x y : V) (v u : Value) (Q : VK), Inv X pins σ H s → RelV x v → RelV y u → r x y H Q →
    wpAny (model X.prog X.w) X.A (f v u) (EP X pins σ Q) X.xe s
def UnR (X : Cx) (f : Value → Sem Value) (r : V → Hp → VK → Prop) : Prop :=
  ∀ (pins : List (Addr × Obj)) (s : Shared) (σ : St) (H : Hp) (x : V) (v : Value) (Q : VK), Inv X pins σ H s → RelV x v → r x H Q →
    wpAny (model X.prog X.w) X.A (f v) (EP X pins σ Q) X.xe s
def CallR (X : Cx) (f : Value) (r : List V → Hp → VK → Prop) : Prop :=
  ∀ (pins : List (Addr × Obj)) (s : Shared) (σ : St) (H : Hp) (xs : List V) (us : List Value) (Q : VK), Inv X pins σ H s → Vals xs us → r xs H Q →
    wpAny (model X.prog X.w) X.A (call f us) (EP X pins σ Q) X.xe s
def TruR (X : Cx) (r : V → Hp → (Bool → Hp → Prop) → Prop) : Prop :=
  ∀ (pins : List (Addr × Obj)) (s : Shared) (σ : St) (H : Hp) (x : V) (v : Value) (Q : Bool → Hp → Prop), Inv X pins σ H s → RelV x v → r x H Q →
    wpAny (model X.prog X.w) X.A (truthy v) (TP X pins σ Q) X.xe s

def tOp (r : R2) (ta tb : TE) : TE := fun σ H Q => ta σ H fun x H1 => tb σ H1 fun y H2 => r x y H2 Q
def tUn (r : V → Hp → VK → Prop) (ta : TE) : TE := fun σ H Q => ta σ H fun x H1 => r x H1 Q
def rI (C : Int → Int → Prop) (g : Int → Int → V) : R2 := fun x y H Q => ∃ i j, x = .int i ∧ y = .int j ∧ C i j ∧ Q (g i j) H
def rI0 (g : Int → Int → V) : R2 := fun x y H Q => ∃ i j, x = .int i ∧ y = .int j ∧ Q (g i j) H
def rU (g : Int → V) : V → Hp → VK → Prop := fun x H Q => ∃ i, x = .int i ∧ Q (g i) H

section
variable {X : Cx} {a b c : Expr} {ta tb tc : TE} {pos : Pos}

theorem binT (ha : PE X a ta) (hb : PE X b tb) {pins : List (Addr × Obj)} {s : Shared} {σ : St} {H : Hp} {R : V → V → Hp → Prop} (I : Inv X pins σ H s)
    (h : ta σ H fun x H1 => tb σ H1 fun y H2 => R x y H2) {Q : Value → Shared → Prop} {f : Value → Value → Sem Value}
    (hf : ∀ v u s2 x y H2, Inv X pins σ H2 s2 → RelV x v → RelV y u → R x y H2 → wpAny (model X.prog X.w) X.A (f v u) Q X.xe s2) :
    wpAny (model X.prog X.w) X.A (eval a X.env) (fun v s₁ => wpAny (model X.prog X.w) X.A (eval b X.env) (fun u s₂ => wpAny (model X.prog X.w) X.A (f v u) Q X.xe s₂) X.xe s₁) X.xe s := by
  refine thn (ha pins s σ H _ I h) fun v s1 ⟨x, H1, I1, r1, q1⟩ => ?_
  refine thn (hb pins s1 σ H1 _ I1 q1) fun u s2 ⟨y, H2, I2, r2, q2⟩ => ?_
  exact hf v u s2 x y H2 I2 r1 r2 q2

theorem pe_op {op : Operator} {r : R2} (ho : OpR X (binaryOp op) r) (ha : PE X a ta) (hb : PE X b tb) : PE X (.BinOp a op b pos) (tOp r ta tb) := by
  intro pins s σ H Q I h
  exact wpAny_BinOp (binT ha hb I h fun v u s2 x y H2 I2 rx ry q => ho pins s2 σ H2 x y v u Q I2 rx ry q)
theorem pe_un {op : UnaryOp} {r : V → Hp → VK → Prop} (ho : UnR X (unaryOp op) r) (ha : PE X a ta) : PE X (.UnaryOp op a pos) (tUn r ta) := by
  intro pins s σ H Q I h
  exact UnaryOp_ (thn (ha pins s σ H _ I h) fun v s1 ⟨x, H1, I1, r1, q1⟩ => ho pins s1 σ H1 x v Q I1 r1 q1)
theorem opI {f : Value → Value → Sem Value} {C : Int → Int → Prop} {g : Int → Int → Int}
    (rule : ∀ (i j : Int) (t u : Tok) (s : Shared) (Q : Value → Shared → Prop) (E : Value → Shared → Prop), C i j → Q (.int (g i j) s.toks) { s with toks := s.toks + 1 } → wpAny (model X.prog X.w) X.A (f (.int i t) (.int j u)) Q E s) :
    OpR X f (rI C fun i j => .int (g i j)) := by
  intro pins s σ H x y v u Q I rx ry h
  obtain ⟨i, j, rfl, rfl, hc, q⟩ := h
  obtain ⟨t, rfl⟩ := rx
  obtain ⟨t', rfl⟩ := ry
  exact rule i j t t' s _ _ hc ⟨.int (g i j), H, I.tok _, ⟨_, rfl⟩, q⟩
theorem opI0 {f : Value → Value → Sem Value} {g : Int → Int → Int}
    (rule : ∀ (i j : Int) (t u : Tok) (s : Shared) (Q : Value → Shared → Prop) (E : Value → Shared → Prop), Q (.int (g i j) s.toks) { s with toks := s.toks + 1 } → wpAny (model X.prog X.w) X.A (f (.int i t) (.int j u)) Q E s) :
    OpR X f (rI0 fun i j => .int (g i j)) := by
  intro pins s σ H x y v u Q I rx ry h
  obtain ⟨i, j, rfl, rfl, q⟩ := h
  obtain ⟨t, rfl⟩ := rx
  obtain ⟨t', rfl⟩ := ry
  exact rule i j t t' s _ _ ⟨.int (g i j), H, I.tok _, ⟨_, rfl⟩, q⟩
theorem opB0 {f : Value → Value → Sem Value} {g : Int → Int → Bool}
    (rule : ∀ (i j : Int) (t u : Tok) (s : Shared) (Q : Value → Shared → Prop) (E : Value → Shared → Prop), Q (.bool (g i j)) s → wpAny (model X.prog X.w) X.A (f (.int i t) (.int j u)) Q E s) :
    OpR X f (rI0 fun i j => .bl (g i j)) := by
  intro pins s σ H x y v u Q I rx ry h
  obtain ⟨i, j, rfl, rfl, q⟩ := h
  obtain ⟨t, rfl⟩ := rx
  obtain ⟨t', rfl⟩ := ry
  exact rule i j t t' s _ _ ⟨.bl (g i j), H, I, rfl, q⟩

def CDiv (i j : Int) : Prop := 0 < j ∧ j < 1073741824
def CDivN (i j : Int) : Prop := j ≠ 0 ∧ j.natAbs < 1073741824
def CPow (i j : Int) : Prop := 0 ≤ j ∧ j ≤ 1000000 ∧ i.natAbs < 2 ^ 64
def CMul (i j : Int) : Prop := (-(2 ^ 64) < i ∧ i < 2 ^ 64) ∨ (-(2 ^ 64) < j ∧ j < 2 ^ 64)
theorem CMul.ok {i j : Int} (h : CMul i j) : IntMulOk i j := by
  rcases h with ⟨h1, h2⟩ | ⟨h1, h2⟩
  · exact .of_left (intBits_le_64 h1 h2)
  · exact .of_right (intBits_le_64 h1 h2)
theorem op_add : OpR X (binaryOp .Add) (rI0 fun i j => .int (i + j)) := opI0 fun _ _ _ _ _ _ _ q => add_int q
theorem op_sub : OpR X (binaryOp .Sub) (rI0 fun i j => .int (i - j)) := opI0 fun _ _ _ _ _ _ _ q => sub_int q
theorem op_modN : OpR X (binaryOp .Mod) (rI (fun _ j => j ≠ 0) fun i j => .int (i.fmod j)) := opI fun _ _ _ _ _ _ _ hc q => mod_int' hc q
theorem op_pow : OpR X (binaryOp .Pow) (rI CPow fun i j => .int (i ^ j.toNat)) := opI fun _ _ _ _ _ _ _ hc q => pow_int_small hc.1 hc.2.1 hc.2.2 q
theorem unI {f : Value → Sem Value} {g : Int → Int}
    (rule : ∀ (i : Int) (t : Tok) (s : Shared) (Q : Value → Shared → Prop) (E : Value → Shared → Prop), Q (.int (g i) s.toks) { s with toks := s.toks + 1 } → wpAny (model X.prog X.w) X.A (f (.int i t)) Q E s) :
    UnR X f (rU fun i => .int (g i)) := by
  intro pins s σ H x v Q I rx h
  obtain ⟨i, rfl, q⟩ := h
  obtain ⟨t, rfl⟩ := rx
  exact rule i t s _ _ ⟨.int (g i), H, I.tok _, ⟨_, rfl⟩, q⟩
theorem un_neg : UnR X (unaryOp .USub) (rU fun i => .int (-i)) := unI fun _ _ _ _ _ q => neg_int q
end

def scal : V → V → Bool
  | .non, .non => true | .non, .int _ => true | .int _, .non => true | .non, .bl _ => true | .bl _, .non => true | .non, .str _ => true | .str _, .non => true
  | .int _, .int _ => true | .bl _, .bl _ => true | .str _, .str _ => true | .byt _, .byt _ => true
  | .int _, .str _ => true | .str _, .int _ => true | .bl _, .str _ => true | .str _, .bl _ => true
  | _, _ => false
def rEq : R2 := fun x y H Q => scal x y = true ∧ Q (.bl (decide (x = y))) H
def rNe : R2 := fun x y H Q => scal x y = true ∧ Q (.bl (!decide (x = y))) H

theorem dec_int {i j : Int} : decide (V.int i = V.int j) = (i == j) := by
  rw [Bool.eq_iff_iff]
  simp
theorem dec_bl {i j : Bool} : decide (V.bl i = V.bl j) = (i == j) := by
  rw [Bool.eq_iff_iff]
  simp
theorem dec_str {i j : Str} : decide (V.str i = V.str j) = (i == j) := by
  rw [Bool.eq_iff_iff]
  simp
theorem dec_byt {i j : Array UInt8} : decide (V.byt i = V.byt j) = (i.toList == j.toList) := by
  rw [Bool.eq_iff_iff]
  cases i
  cases j
  simp

section
variable {X : Cx} {a b c : Expr} {ta tb tc : TE} {pos : Pos}
theorem fin_bl {pins : List (Addr × Obj)} {σ : St} {H : Hp} {s : Shared} {Q : VK} {k k' : Bool} (I : Inv X pins σ H s) (q : Q (.bl k) H) (e : k = k') : EP X pins σ Q (.bool k') s := by
  subst e
  exact ⟨.bl k, H, I, rfl, q⟩
theorem op_eq : OpR X (compareOp .Eq) rEq := by
  intro pins s σ H x y v u Q I rx ry h
  obtain ⟨hs, q⟩ := h
  cases x with
  | non =>
    cases rx
    cases y with
    | non => cases ry; exact PySem.EqNone.eq_none_none (fin_bl I q (by simp))
    | bl j => cases ry; exact PySem.EqNone.eq_none_bool (fin_bl I q (by simp))
    | int j => obtain ⟨t', rfl⟩ := ry; exact PySem.EqNone.eq_none_int (fin_bl I q (by simp))
    | str j => obtain ⟨t', rfl⟩ := ry; exact PySem.EqNone.eq_none_str (fin_bl I q (by simp))
    | _ => exact absurd (show false = true from hs) Bool.false_ne_true
  | bl i =>
    cases rx
    cases y with
    | non => cases ry; exact PySem.EqNone.eq_bool_none (fin_bl I q (by simp))
    | bl j => cases ry; exact eq_bool (fin_bl I q dec_bl)
    | str j => obtain ⟨t', rfl⟩ := ry; exact PySem.EqMixed.eq_bool_str (fin_bl I q (by simp))
    | _ => exact absurd (show false = true from hs) Bool.false_ne_true
  | int i =>
    obtain ⟨t, rfl⟩ := rx
    cases y with
    | non => cases ry; exact PySem.EqNone.eq_int_none (fin_bl I q (by simp))
    | int j => obtain ⟨t', rfl⟩ := ry; exact eq_int (fin_bl I q dec_int)
    | str j => obtain ⟨t', rfl⟩ := ry; exact PySem.EqMixed.eq_int_str (fin_bl I q (by simp))
    | _ => exact absurd (show false = true from hs) Bool.false_ne_true
  | str i =>
    obtain ⟨t, rfl⟩ := rx
    cases y with
    | non => cases ry; exact PySem.EqNone.eq_str_none (fin_bl I q (by simp))
    | bl j => cases ry; exact PySem.EqMixed.eq_str_bool (fin_bl I q (by simp))
    | int j => obtain ⟨t', rfl⟩ := ry; exact PySem.EqMixed.eq_str_int (fin_bl I q (by simp))
    | str j => obtain ⟨t', rfl⟩ := ry; exact eq_str (fin_bl I q dec_str)
    | _ => exact absurd (show false = true from hs) Bool.false_ne_true
  | byt i =>
    obtain ⟨t, rfl⟩ := rx
    cases y with
    | byt j => obtain ⟨t', rfl⟩ := ry; exact PySem.W.eq_bytes (fin_bl I q dec_byt)
    | _ => exact absurd (show false = true from hs) Bool.false_ne_true
  | _ => cases y <;> exact absurd (show false = true from hs) Bool.false_ne_true
theorem op_ne : OpR X (compareOp .NotEq) rNe := by
  intro pins s σ H x y v u Q I rx ry h
  obtain ⟨hs, q⟩ := h
  cases x with
  | non =>
    cases rx
    cases y with
    | non => cases ry; exact PySem.EqNone.ne_none_none (fin_bl I q (by simp))
    | bl j => cases ry; exact PySem.EqNone.ne_none_bool (fin_bl I q (by simp))
    | int j => obtain ⟨t', rfl⟩ := ry; exact PySem.EqNone.ne_none_int (fin_bl I q (by simp))
    | str j => obtain ⟨t', rfl⟩ := ry; exact PySem.EqNone.ne_none_str (fin_bl I q (by simp))
    | _ => exact absurd (show false = true from hs) Bool.false_ne_true
  | bl i =>
    cases rx
    cases y with
    | non => cases ry; exact PySem.EqNone.ne_bool_none (fin_bl I q (by simp))
    | bl j => cases ry; exact ne_bool (fin_bl I q (congrArg not dec_bl))
    | str j => obtain ⟨t', rfl⟩ := ry; exact PySem.EqMixed.ne_bool_str (fin_bl I q (by simp))
    | _ => exact absurd (show false = true from hs) Bool.false_ne_true
  | int i =>
    obtain ⟨t, rfl⟩ := rx
    cases y with
    | non => cases ry; exact PySem.EqNone.ne_int_none (fin_bl I q (by simp))
    | int j => obtain ⟨t', rfl⟩ := ry; exact ne_int (fin_bl I q (congrArg not dec_int))
    | str j => obtain ⟨t', rfl⟩ := ry; exact PySem.EqMixed.ne_int_str (fin_bl I q (by simp))
    | _ => exact absurd (show false = true from hs) Bool.false_ne_true
  | str i =>
    obtain ⟨t, rfl⟩ := rx
    cases y with
    | non => cases ry; exact PySem.EqNone.ne_str_none (fin_bl I q (by simp))
    | bl j => cases ry; exact PySem.EqMixed.ne_str_bool (fin_bl I q (by simp))
    | int j => obtain ⟨t', rfl⟩ := ry; exact PySem.EqMixed.ne_str_int (fin_bl I q (by simp))
    | str j => obtain ⟨t', rfl⟩ := ry; exact ne_str (fin_bl I q (congrArg not dec_str))
    | _ => exact absurd (show false = true from hs) Bool.false_ne_true
  | byt i =>
    obtain ⟨t, rfl⟩ := rx
    cases y with
    | byt j => obtain ⟨t', rfl⟩ := ry; exact PySem.W.ne_bytes (fin_bl I q (congrArg not dec_byt))
    | _ => exact absurd (show false = true from hs) Bool.false_ne_true
  | _ => cases y <;> exact absurd (show false = true from hs) Bool.false_ne_true

theorem op_lt : OpR X (compareOp .Lt) (rI0 fun i j => .bl (decide (i < j))) := opB0 fun _ _ _ _ _ _ _ q => lt_int q
theorem op_le : OpR X (compareOp .LtE) (rI0 fun i j => .bl (decide (i ≤ j))) := opB0 fun _ _ _ _ _ _ _ q => le_int q
theorem op_gt : OpR X (compareOp .Gt) (rI0 fun i j => .bl (decide (j < i))) := opB0 fun _ _ _ _ _ _ _ q => gt_int q
theorem op_ge : OpR X (compareOp .GtE) (rI0 fun i j => .bl (decide (j ≤ i))) := opB0 fun _ _ _ _ _ _ _ q => ge_int q
theorem op_isN : OpR X (compareOp .Is) (fun x y H Q => y = .non ∧ Q (.bl (decide (x = .non))) H) := by
  intro pins s σ H x y v u Q I rx ry h
  obtain ⟨rfl, q⟩ := h
  cases ry
  refine is_none_gen (fin_bl I q ?_)
  cases x <;> first
    | (cases rx; rfl)
    | (obtain ⟨t, rfl⟩ := rx; rfl)
def isObj : HO → Bool
  | .lst _ => true
  | .ins _ _ _ => true
  | _ => false
theorem OpR.or {f : Value → Value → Sem Value} {r r' : R2} (h : OpR X f r) (h' : OpR X f r') : OpR X f (fun x y H Q => r x y H Q ∨ r' x y H Q) := by
  intro pins s σ H x y v u Q I rx ry q
  rcases q with q | q
  · exact h pins s σ H x y v u Q I rx ry q
  · exact h' pins s σ H x y v u Q I rx ry q

theorem nomark (b : Expr) {op : CmpOp} (h : op ≠ .In := by decide) (h2 : op ≠ .NotIn := by decide) : behindInMarks op b = false := by
  have e1 : (op == CmpOp.In) = false := by cases op <;> first | rfl | exact absurd rfl h
  have e2 : (op == CmpOp.NotIn) = false := by cases op <;> first | rfl | exact absurd rfl h2
  cases b <;> simp [behindInMarks, e1, e2]
theorem pe_cmpR {op : CmpOp} {r : R2} (ho : OpR X (compareOp op) r) (ha : PE X a ta) (hb : PE X b tb) (hm : behindInMarks op b = false) : PE X (.Compare a [op] [b] pos) (tOp r ta tb) := by
  intro pins s σ H Q I h
  exact wpAny_Compare1 (binT ha hb I h fun v u s2 x y H2 I2 rx ry q => ho pins s2 σ H2 x y v u Q I2 rx ry q) hm
def tTest (t : TE) : TT := fun σ H Q => t σ H fun x H' => ∃ k, x = .bl k ∧ Q k H'
theorem pt_cmpR {op : CmpOp} {r : R2} (ho : OpR X (compareOp op) r) (ha : PE X a ta) (hb : PE X b tb) (hm : behindInMarks op b = false) : PT X (.Compare a [op] [b] pos) (tTest (tOp r ta tb)) := by
  intro pins s σ H Q I h
  refine wpAny_isTrue_Compare1 (thn (ha pins s σ H _ I h) fun v s1 ⟨x, H1, I1, r1, q1⟩ => thn (hb pins s1 σ H1 _ I1 q1) fun u s2 ⟨y, H2, I2, r2, q2⟩ =>
    thn (ho pins s2 σ H2 x y v u _ I2 r1 r2 q2) fun c s3 ⟨z, H3, I3, r3, k, e, q3⟩ => ?_) hm
  subst e
  cases r3
  exact wpAny_truthy_bool ⟨H3, I3, q3⟩
def tChain (r r' : R2) (ta tb tc : TE) : TE := fun σ H Q => ta σ H fun x H1 => tb σ H1 fun y H2 => r x y H2 fun z H3 => ∃ k, z = .bl k ∧
  (if k = true then tc σ H3 fun w' H4 => r' y w' H4 Q else Q (.bl false) H3)
def TruV (K : PySem.W.Frag) (x : V) (H : Hp) (k : Bool) : Prop :=
  match x with
  | .non => k = false
  | .bl b => k = b
  | .int i => k = (i != 0)
  | .str y => y.length ≤ sizeLine ∧ k = ((y.length : Int) != 0)
  | .byt y => y.size ≤ sizeLine ∧ k = ((y.size : Int) != 0)
  | .ref p => (∃ xs, SqL K H p xs ∧ k = !xs.isEmpty) ∨ (∃ xs, SqT K H p xs ∧ k = !xs.isEmpty) ∨ ∃ kvs, H p = some (.dK kvs) ∧ k = !kvs.isEmpty
  | _ => False
theorem line63 : (sizeLine : Nat) < 2 ^ 63 := by rw [sizeLine_eq]; decide
theorem op_add_str : OpR X (binaryOp .Add) (fun x y H Q => ∃ i j, x = .str i ∧ y = .str j ∧ i.length + j.length ≤ sizeLine ∧ Q (.str (i ++ j)) H) := by
  intro pins s σ H x y v u Q I rx ry h
  obtain ⟨i, j, rfl, rfl, hz, q⟩ := h
  obtain ⟨t, rfl⟩ := rx
  obtain ⟨t', rfl⟩ := ry
  exact add_str (fun t' tk => ⟨.str (i ++ j), H, I.tok _, ⟨_, rfl⟩, q⟩) hz
def PlainIxT (b : Expr) : Prop := ∀ o i, subscripted b false o i = operate [o, i] (getItem o i)
theorem vals1 {x : V} {us : List Value} (r : Vals [x] us) : ∃ u, us = [u] ∧ RelV x u := by
  cases r with
  | cons r1 r2 => cases r2; exact ⟨_, rfl, r1⟩
theorem vals2 {x y : V} {us : List Value} (r : Vals [x, y] us) : ∃ u w', us = [u, w'] ∧ RelV x u ∧ RelV y w' := by
  cases r with
  | cons r1 r2 =>
    cases r2 with
    | cons r3 r4 => cases r4; exact ⟨_, _, rfl, r1, r3⟩
theorem call_abs : CallR X (.builtin "abs") (fun xs H Q => ∃ i, xs = [.int i] ∧ Q (.int (if i < 0 then -i else i)) H) := by
  intro pins s σ H xs us Q I r h
  obtain ⟨i, rfl, q⟩ := h
  obtain ⟨u, rfl, t, rfl⟩ := vals1 r
  exact call_abs_int fun u tk => ⟨.int (if i < 0 then -i else i), H, I.tok _, ⟨_, rfl⟩, q⟩
theorem call_max2 (hc : X.calm = true) : CallR X (.builtin "max") (fun xs H Q => ∃ i j, xs = [.int i, .int j] ∧ Q (.int (if j > i then j else i)) H) := by
  intro pins s σ H xs us Q I r h
  obtain ⟨i, j, rfl, q⟩ := h
  obtain ⟨u, w', rfl, ⟨t, rfl⟩, ⟨t', rfl⟩⟩ := vals2 r
  refine max_two_ints (I.ok.hd hc) fun h' tk k => ⟨_, H, I.kept k, ?_, q⟩
  by_cases hj : j > i
  · rw [if_pos hj, if_pos hj]; exact ⟨_, rfl⟩
  · rw [if_neg hj, if_neg hj]; exact ⟨_, rfl⟩
theorem call_min2 (hc : X.calm = true) : CallR X (.builtin "min") (fun xs H Q => ∃ i j, xs = [.int i, .int j] ∧ Q (.int (if j < i then j else i)) H) := by
  intro pins s σ H xs us Q I r h
  obtain ⟨i, j, rfl, q⟩ := h
  obtain ⟨u, w', rfl, ⟨t, rfl⟩, ⟨t', rfl⟩⟩ := vals2 r
  refine min_two_ints (I.ok.hd hc) fun h' tk k => ⟨_, H, I.kept k, ?_, q⟩
  by_cases hj : j < i
  · rw [if_pos hj, if_pos hj]; exact ⟨_, rfl⟩
  · rw [if_neg hj, if_neg hj]; exact ⟨_, rfl⟩
theorem call_int1 : CallR X (.type "int") (fun xs H Q => (∃ i, xs = [.int i] ∧ Q (.int i) H) ∨ ∃ k, xs = [.bl k] ∧ Q (.int (if k then 1 else 0)) H) := by
  intro pins s σ H xs us Q I r h
  rcases h with ⟨i, rfl, q⟩ | ⟨k, rfl, q⟩
  · obtain ⟨u, rfl, t, rfl⟩ := vals1 r
    exact call_int_int ⟨.int i, H, I, ⟨_, rfl⟩, q⟩
  · obtain ⟨u, rfl, r1⟩ := vals1 r
    cases r1
    exact call_int_bool ⟨.int (if k then 1 else 0), H, I.tok _, ⟨_, rfl⟩, q⟩
theorem call_str_int : CallR X (.type "str") (fun xs H Q => ∃ i, xs = [.int i] ∧ i.natAbs.log2 < 1920 ∧ Q (.str (toString i)) H) := by
  intro pins s σ H xs us Q I r h
  obtain ⟨i, rfl, hz, q⟩ := h
  obtain ⟨u, rfl, t, rfl⟩ := vals1 r
  exact PySem.P.str_of_int hz ⟨.str _, H, I.tok _, ⟨_, rfl⟩, q⟩
def LenV (K : PySem.W.Frag) (x : V) (H : Hp) (n : Nat) : Prop :=
  match x with
  | .str y => y.length ≤ sizeLine ∧ n = y.length
  | .byt y => y.size ≤ sizeLine ∧ n = y.size
  | .ref p => (∃ xs, SqL K H p xs ∧ n = xs.length) ∨ ∃ xs, SqT K H p xs ∧ n = xs.length
  | _ => False
end
end L2

namespace L2
open PySem PySem.Spec PyProof.Rows

structure ObjM (h : Heap) (x dx C : Addr) (mA : Str → Option Value) : Prop where
  obj : h.get? x = some (PySem.W.instObj C dx)
  ns : h.Ns1 dx mA
  ne : dx ≠ x

theorem lookIn_ns {h : Heap} {dx : Addr} {mA : Str → Option Value} (n : h.Ns1 dx mA) : ∃ od, h.get? dx = some od ∧ ∀ name, PySem.W.lookIn name od = some (mA name) := by
  obtain ⟨o, es, ep, ho, hd, hk, _, hm⟩ := n
  refine ⟨o, ho, fun name => ?_⟩
  have e := hm name
  unfold nsFind findBy at e
  rw [← Array.find?_toList] at e
  unfold PySem.W.lookIn
  rw [hd]
  dsimp only
  split
  · rename_i y q
    rw [q] at e
    exact congrArg some e
  · rename_i q
    rw [q] at e
    have a : es.toList.any (·.refKey) = false := by
      rw [List.any_eq_false]
      intro y hy
      obtain ⟨z, t, hkey⟩ := hk y (Array.mem_toList_iff.mp hy)
      simp [DictEntry.refKey, hkey]
    have a' : ¬ es.toList.any (·.refKey) = true := by rw [a]; exact Bool.false_ne_true
    rw [if_neg a']
    exact congrArg some e

theorem ObjM.look {h : Heap} {x dx C : Addr} {mA : Str → Option Value} (I : ObjM h x dx C mA) : ∃ od, PySem.W.InstAt h x (PySem.W.instObj C dx) C (some od) ∧ ∀ name, PySem.W.lookIn name od = some (mA name) :=
  let ⟨od, ho, hl⟩ := lookIn_ns I.ns
  ⟨od, ⟨I.obj, rfl, rfl, ho⟩, hl⟩

section
variable {prog : Program} {w : World} {A : Around} {E : Value → Shared → Prop} {s : Shared} {K : PySem.W.Frag} {x dx C f : Addr} {mA : Str → Option Value} {name : Str} {v : Value}

theorem get_map {expr : Bool} {Q : Value → Shared → Prop} (X : K.In s.heap) (I : ObjM s.heap x dx C mA) (hg : PySem.W.plainGet K C name = true) (hh : PySem.W.hasDictIn K C = true)
    (ha : PySem.W.findIn K (.ref C) name = some none) (hv : mA name = some v) (hv' : PySem.W.handedIn v = true) (h : Q v { s with toks := s.toks + 1 }) :
    wpAny (model prog w) A (getAttr (.ref x) name expr) Q E s := by
  obtain ⟨od, J, hl⟩ := I.look
  exact PySem.W.get_value X J (PySem.W.plainGet_of hg).1 (PySem.W.findObj_own hh ha rfl (by rw [hl, hv])) hv' h

theorem get_meth {pl : Sem Bool} {Q : Value × List Value → Shared → Prop} (X : K.In s.heap) (I : ObjM s.heap x dx C mA) (hg : PySem.W.plainGet K C name = true)
    (hf : PySem.W.findIn K (.ref C) name = some (some (.ref f))) (ht : PySem.W.isFn K (.ref f) = true) (hv : mA name = none) (h : Q (.ref f, [.ref x]) s) :
    wpAny (model prog w) A (getMethod (.ref x) name pl) Q E s := by
  obtain ⟨od, J, hl⟩ := I.look
  exact PySem.W.method_fn X J (PySem.W.plainGet_of hg).1 (PySem.W.plainGet_of hg).2 hf (beq_iff_eq.mp ht) (by show (PySem.W.lookIn name od).map (·.isSome) = some false; rw [hl, hv]; rfl) h

theorem set_map {ns : List Str} {Q : Unit → Shared → Prop} (X : K.In s.heap) (I : ObjM s.heap x dx C mA)
    (hs : PySem.W.findIn K (.ref C) "__setattr__" = some (some (.builtin "object.__setattr__"))) (hp : PySem.W.plainOver K C = true) (ht : PySem.W.takerIn K C name = some none) (hh : PySem.W.hasDictIn K C = true)
    (hw : PySem.Within mA ns) (hsz : ns.length ≤ sizeLine)
    (h : ∀ h', ObjM h' x dx C (fun y => if y = name then some v else mA y) → Heap.SameBut dx s.heap h' → Q () { s with heap := h', toks := s.toks + 2 }) :
    wpAny (model prog w) A (setAttr (.ref x) name v) Q E s := by
  obtain ⟨od, J, hl⟩ := I.look
  refine PySem.W.set_plain X J hs (PySem.W.osa_open (s := { s with toks := s.toks + 1 }) (r := none) X J hp ht fun b => ?_)
  obtain ⟨cd, hc, hd'⟩ := PySem.W.any_some hh
  have hx : s.heap.get? x = some ⟨.ref C, some dx, .plain, #[]⟩ := I.obj
  refine wpAny_bind (wpAny_pure (wpAny_bind (wpAny_bind (wpAny_loadPart hx (wpAny_bind (PySem.W.Looks.here (s := { s with toks := s.toks + 1 }) (PySem.W.looks_clsIn X hc) ?_))))))
  rw [hd']
  refine wpAny_pure (a := some dx) (wpAny_bind (wpAny_pure (wpAny_bind ?_)))
  refine wpAny_nsSet1 (s := { s with toks := s.toks + 1 }) I.ns fun h' hn2 hs2 => ?_
  obtain ⟨oD, esD, epD, hoD, hdD, hcD⟩ := hn2.count (PySem.Within.cons name v hw)
  refine wpAny_bind (wpAny_lookBehind hoD (by rw [hdD]; exact pastItsLine_dict (Nat.le_trans hcD (by rw [List.length_cons]; omega))) ?_)
  exact wpAny_pure (h _ ⟨(hs2.2 _ (Ne.symm I.ne)).trans I.obj, hn2, I.ne⟩ hs2)

theorem make_map {R : Result → Shared → Prop} {vs : List Value} {kw : List (Str × Value)} (X : K.In s.heap) (hm : PySem.W.makesIn K C = true)
    (hi : PySem.W.findIn K (.ref C) "__init__" = some (some (.ref f))) (hf : PySem.W.typeIn K (.ref f) = some (.type "function"))
    (h : codeAny (model prog w) (A.under (.builtin "type.__call__" ⟨.ref C :: vs, kw⟩)) (.call (.ref f) ⟨.ref (s.heap.objs.size + 1) :: vs, kw⟩) (PySem.W.InitBack (s.heap.objs.size + 1) R)
      { s with heap := (s.heap.push PySem.W.emptyDict).push (PySem.W.instObj C s.heap.objs.size) }) :
    codeAny (model prog w) A (.call (.ref C) ⟨vs, kw⟩) R s := by
  obtain ⟨hh, g, d, t, os⟩ := s
  exact PySem.W.make_core (PySem.W.makes_of X hm) (PySem.W.looks_findIn X hi) (fun self => PySem.W.bind_fn X self hf) (.inl rfl) h
end

def putF (f : Str) (v : V) : List (Str × V) → List (Str × V)
  | [] => [(f, v)]
  | (g, x) :: r => if g = f then (g, v) :: r else (g, x) :: putF f v r
theorem lookup_putF (f g : Str) (v : V) : ∀ fs : List (Str × V), (putF f v fs).lookup g = if g = f then some v else fs.lookup g
  | [] => by
    show List.lookup g [(f, v)] = _
    by_cases h : g = f
    · have hb : (g == f) = true := beq_iff_eq.mpr h
      simp only [List.lookup, hb, if_pos h]
    · have hb : (g == f) = false := beq_eq_false_iff_ne.mpr h
      simp only [List.lookup, hb, if_neg h]
  | (k, x) :: r => by
    have ih := lookup_putF f g v r
    rw [show putF f v ((k, x) :: r) = (if k = f then (k, v) :: r else (k, x) :: putF f v r) from rfl]
    by_cases hk : k = f
    · rw [if_pos hk]
      by_cases h : g = k
      · have hb : (g == k) = true := beq_iff_eq.mpr h
        simp only [List.lookup, hb, if_pos (h.trans hk)]
      · have hb : (g == k) = false := beq_eq_false_iff_ne.mpr h
        simp only [List.lookup, hb, if_neg (fun e : g = f => h (e.trans hk.symm))]
    · rw [if_neg hk]
      by_cases h : g = k
      · have hb : (g == k) = true := beq_iff_eq.mpr h
        simp only [List.lookup, hb, if_neg (fun e : g = f => hk (h.symm.trans e))]
      · have hb : (g == k) = false := beq_eq_false_iff_ne.mpr h
        simp only [List.lookup, hb]
        exact ih
theorem keys_putF (f : Str) (v : V) : ∀ fs : List (Str × V), f ∈ (putF f v fs).map (·.1) ∧ ∀ g, g ∈ fs.map (·.1) → g ∈ (putF f v fs).map (·.1)
  | [] => ⟨by simp [putF], fun g h => by simp at h⟩
  | (k, x) :: r => by
    obtain ⟨i1, i2⟩ := keys_putF f v r
    rw [show putF f v ((k, x) :: r) = (if k = f then (k, v) :: r else (k, x) :: putF f v r) from rfl]
    by_cases hk : k = f
    · rw [if_pos hk]
      subst hk
      exact ⟨by simp, fun g h => by simpa using h⟩
    · rw [if_neg hk]
      refine ⟨?_, fun g h => ?_⟩
      · rw [List.map_cons]
        exact List.mem_cons_of_mem _ i1
      · rw [List.map_cons] at h ⊢
        rcases List.mem_cons.mp h with e | e
        · exact List.mem_cons.mpr (.inl e)
        · exact List.mem_cons_of_mem _ (i2 g e)
theorem length_putF (f : Str) (v : V) : ∀ fs : List (Str × V), (putF f v fs).length ≤ fs.length + 1
  | [] => by simp [putF]
  | (k, x) :: r => by
    have ih := length_putF f v r
    rw [show putF f v ((k, x) :: r) = (if k = f then (k, v) :: r else (k, x) :: putF f v r) from rfl]
    by_cases hk : k = f
    · rw [if_pos hk, List.length_cons, List.length_cons]; omega
    · rw [if_neg hk, List.length_cons, List.length_cons]; omega

theorem RelO.some_of {v : V} {o : Option Value} (r : RelO (some v) o) : ∃ u, o = some u ∧ RelV v u := by
  cases o with
  | none => exact (show False from r).elim
  | some u => exact ⟨u, rfl, r⟩
theorem RelO.none_of {o : Option Value} (r : RelO none o) : o = none := by
  cases o with
  | none => rfl
  | some u => exact (show False from r).elim
theorem handed_of {v : V} {u : Value} (r : RelV v u) : PySem.W.handedIn u = true := by
  cases v with
  | non => cases (show u = Value.none from r); rfl
  | bl b => cases (show u = Value.bool b from r); rfl
  | int i => obtain ⟨t, e⟩ := (show ∃ t, u = Value.int i t from r); cases e; rfl
  | str x => obtain ⟨t, e⟩ := (show ∃ t, u = Value.str x t from r); cases e; rfl
  | byt b => obtain ⟨t, e⟩ := (show ∃ t, u = Value.bytes b t from r); cases e; rfl
  | flt b => obtain ⟨t, e⟩ := (show ∃ t, u = Value.float b t from r); cases e; rfl
  | ref a => cases (show u = Value.ref a from r); rfl
  | ty n => cases (show u = Value.type n from r); rfl

section
variable {P : Program} {w : World} {H H' : Hp} {h h' : Heap} {a C dx : Addr} {fs fs' : List (Str × V)}
theorem ins_get (hok : HOk P w H h) (e : H a = some (.ins C dx fs)) : ∃ mA, ObjM h a dx C mA ∧ (∀ f, RelO (fs.lookup f) (mA f)) ∧ PySem.Within mA (fs.map (·.1)) ∧ fs.length ≤ 1000 ∧ H dx = some (.own a) := by
  obtain ⟨d, z, ne, ob, mA, n, r, q⟩ := (show ObjOk P w H h a (.ins C dx fs) from hok a _ e)
  exact ⟨mA, ⟨ob, n, ne⟩, r, q, z, d⟩
end

structure Cls (K : PySem.W.Frag) (C : Addr) : Prop where
  pg : PySem.W.plainGet K C Str.empty = true
  hd : PySem.W.hasDictIn K C = true
  po : PySem.W.plainOver K C = true
  sa : PySem.W.findIn K (.ref C) "__setattr__" = some (some (.builtin "object.__setattr__"))
theorem Cls.get {K : PySem.W.Frag} {C : Addr} (c : Cls K C) (f : Str) : PySem.W.plainGet K C f = true := c.pg
def NoAttr (K : PySem.W.Frag) (C : Addr) (f : Str) : Prop := PySem.W.findIn K (.ref C) f = some none
theorem NoAttr.taker {K : PySem.W.Frag} {C : Addr} {f : Str} (n : NoAttr K C f) : PySem.W.takerIn K C f = some none := by
  unfold PySem.W.takerIn
  rw [show PySem.W.findIn K (.ref C) f = some none from n]
  rfl
structure Con (K : PySem.W.Frag) (C : Addr) (f : Str) (v : V) (u : Value) : Prop where
  at_ : PySem.W.findIn K (.ref C) f = some (some u)
  rel : RelV v u
  get : PySem.W.specialIn K u "__get__" = some none
  cp : PySem.W.copiedNames.contains f = false
structure Meth (K : PySem.W.Frag) (C : Addr) (m : Str) (f : Addr) : Prop where
  at_ : PySem.W.findIn K (.ref C) m = some (some (.ref f))
  fn : PySem.W.isFn K (.ref f) = true
  kp : PySem.W.keepIn K (.ref f) = true

section
variable {X : Cx} {pins : List (Addr × Obj)} {σ : St} {H : Hp} {s : Shared} {a C dx : Addr} {fs : List (Str × V)} {f : Str} {v : V} {A : Around} {E : Value → Shared → Prop}

theorem getattr_ok {b : Bool} {Q : Value → Shared → Prop} (I : Inv X pins σ H s) (e : H a = some (.ins C dx fs)) (c : Cls X.K C) (n : NoAttr X.K C f) (l : fs.lookup f = some v)
    (h : ∀ u s', Inv X pins σ H s' → RelV v u → Q u s') : wpAny (model X.prog X.w) A (getAttr (.ref a) f b) Q E s := by
  obtain ⟨mA, O, r, _, _, _⟩ := ins_get I.hok e
  obtain ⟨u, hu, ru⟩ := RelO.some_of (v := v) (o := mA f) (by rw [← l]; exact r f)
  exact get_map I.kIn O (c.get f) c.hd n hu (handed_of ru) (h u _ (I.tok _) ru)

theorem getmeth_ok {m : Str} {g : Addr} {pl : Sem Bool} {Q : Value × List Value → Shared → Prop} (I : Inv X pins σ H s) (e : H a = some (.ins C dx fs)) (c : Cls X.K C) (k : Meth X.K C m g) (l : fs.lookup m = none)
    (h : Q (.ref g, [.ref a]) s) : wpAny (model X.prog X.w) A (getMethod (.ref a) m pl) Q E s := by
  obtain ⟨mA, O, r, _, _, _⟩ := ins_get I.hok e
  have hn : mA m = none := RelO.none_of (by rw [← l]; exact r m)
  exact get_meth I.kIn O (c.get m) k.at_ k.fn hn h

theorem setattr_ok {y : V} {u : Value} {Q : Unit → Shared → Prop} (I : Inv X pins σ H s) (e : H a = some (.ins C dx fs)) (c : Cls X.K C) (n : NoAttr X.K C f) (hl : fs.length < 1000) (ry : RelV y u)
    (h : ∀ s', Inv X pins σ (upd H a (.ins C dx (putF f y fs))) s' → Q () s') : wpAny (model X.prog X.w) A (setAttr (.ref a) f u) Q E s := by
  obtain ⟨mA, O, r, wi, _, ho⟩ := ins_get I.hok e
  have hz : (fs.map (·.1)).length ≤ sizeLine := by rw [List.length_map, sizeLine_eq]; omega
  refine set_map I.kIn O c.sa c.po n.taker c.hd wi hz fun h' O' sb => h _ ?_
  have hd : ∃ o, h'.get? dx = some o := let ⟨o, _, _, e', _⟩ := O'.ns; ⟨o, e'⟩
  refine I.write (x := a) (e := dx) (by rw [e]; exact True.intro) (.inr ho) (fun b q hb z => (sb.2 b hb).trans z) hd ?_
  refine ⟨by rw [upd_ne O.ne]; exact ho, ?_, O.ne, O'.obj, _, O'.ns, fun g => ?_, fun g hg => ?_⟩
  · have := length_putF f y fs; omega
  · show RelO ((putF f y fs).lookup g) (if g = f then some u else mA g)
    rw [lookup_putF]
    by_cases q : g = f
    · rw [if_pos q, if_pos q]; exact ry
    · rw [if_neg q, if_neg q]; exact r g
  · by_cases q : g = f
    · rw [q]; exact (keys_putF f y fs).1
    · refine (keys_putF f y fs).2 g (wi g fun z => hg ?_)
      show (if g = f then some u else mA g) = none
      rw [if_neg q]; exact z

theorem Inv.made (I : Inv X pins σ H s) : Inv X pins σ (upd (upd H s.heap.objs.size (.own (s.heap.objs.size + 1))) (s.heap.objs.size + 1) (.ins C s.heap.objs.size []))
    { s with heap := (s.heap.push PySem.W.emptyDict).push (PySem.W.instObj C s.heap.objs.size) } := by
  have e1 : (s.heap.push PySem.W.emptyDict).get? s.heap.objs.size = some PySem.W.emptyDict := Heap.get?_push_size s.heap rfl
  have e2 : ((s.heap.push PySem.W.emptyDict).push (PySem.W.instObj C s.heap.objs.size)).get? (s.heap.objs.size + 1) = some (PySem.W.instObj C s.heap.objs.size) := by
    have := Heap.get?_push_size (s.heap.push PySem.W.emptyDict) (o := PySem.W.instObj C s.heap.objs.size) rfl
    rwa [Heap.size_push] at this
  have e3 : (s.heap.push PySem.W.emptyDict).Ns s.heap.objs.size (fun _ => none) := ⟨PySem.W.emptyDict, #[], _, e1, rfl, (fun e he => absurd he (by simp)), fun _ => rfl⟩
  have I1 := I.laid (a := s.heap.objs.size) (o := .own (s.heap.objs.size + 1)) (h' := s.heap.push PySem.W.emptyDict) (t' := s.toks) (fun b u q => Heap.get?_push_of_some _ q) (Nat.le_refl _) ⟨_, e1⟩
  refine I1.laid (a := s.heap.objs.size + 1) (o := .ins C s.heap.objs.size []) (t' := s.toks) (fun b u q => Heap.get?_push_of_some _ q) (Nat.le_of_eq (Heap.size_push _ _)) ?_
  have ne : s.heap.objs.size ≠ s.heap.objs.size + 1 := Nat.ne_of_lt (Nat.lt_succ_self _)
  refine ⟨by rw [upd_ne ne, upd_same], Nat.zero_le _, ne, e2, fun _ => none, (Heap.Ns1.of_empty e3).at fun o q => Heap.get?_push_of_some _ q, fun _ => True.intro, fun y hy => absurd rfl hy⟩

theorem attr_of {prog : Program} {w : World} {env : Env} {e : Expr} {f : Str} {pos : Pos} {s : Shared} {Q : Value → Shared → Prop} (hb : attributeBase e f env (eval e env) = eval e env)
    (h : wpAny (model prog w) A (eval e env) (fun o s₁ => wpAny (model prog w) A (getAttr o f true) Q E s₁) E s) : wpAny (model prog w) A (eval (.Attribute e f pos) env) Q E s :=
  Attribute_any_ h (by rw [arm_eval_Attribute, hb])
end

def tFld (K : PySem.W.Frag) (ta : TE) (f : Str) : TE := fun σ H Q => ta σ H fun x H1 => ∃ a C dx fs v, x = .ref a ∧ H1 a = some (.ins C dx fs) ∧ Cls K C ∧ NoAttr K C f ∧ fs.lookup f = some v ∧ Q v H1
def tCon (K : PySem.W.Frag) (ta : TE) (f : Str) : TE := fun σ H Q => ta σ H fun x H1 => ∃ a C dx fs v u, x = .ref a ∧ H1 a = some (.ins C dx fs) ∧ Cls K C ∧ Con K C f v u ∧ fs.lookup f = none ∧ Q v H1
def sFld (K : PySem.W.Frag) (ta tv : TE) (f : Str) : TS := fun D σ H => tv σ H fun y H1 => ta σ H1 fun x H2 => ∃ a C dx fs, x = .ref a ∧ H2 a = some (.ins C dx fs) ∧ Cls K C ∧ NoAttr K C f ∧ fs.length < 1000 ∧
  D.nx σ (upd H2 a (.ins C dx (putF f y fs)))
def InOp (X : Cx) (op : Operator) (rd : V → V → Hp → VK → Prop) : Prop :=
  ∀ (pins : List (Addr × Obj)) (s : Shared) (σ : St) (H : Hp) (x y : V) (u v : Value) (Q : VK), Inv X pins σ H s → RelV x u → RelV y v → rd x y H Q → wpAny (model X.prog X.w) X.A (inplaceOp op u v) (EP X pins σ Q) X.xe s
def sFldAug (K : PySem.W.Frag) (ta tv : TE) (rd : V → V → Hp → VK → Prop) (f : Str) : TS := fun D σ H => ta σ H fun x H1 => ∃ a C dx fs v, x = .ref a ∧ H1 a = some (.ins C dx fs) ∧ Cls K C ∧ NoAttr K C f ∧ fs.lookup f = some v ∧
  tv σ H1 fun y H2 => rd v y H2 fun z H3 => ∃ dx' fs', H3 a = some (.ins C dx' fs') ∧ fs'.length < 1000 ∧ D.nx σ (upd H3 a (.ins C dx' (putF f z fs')))

section
variable {X : Cx} {o e value : Expr} {f : Str} {pos pos' tpos : Pos} {ta tv : TE}
theorem pe_fld (he : PE X e ta) (hb : attributeBase e f X.env (eval e X.env) = eval e X.env) : PE X (.Attribute e f pos) (tFld X.K ta f) := by
  intro pins s σ H Q I h
  refine attr_of hb (thn (he pins s σ H _ I h) fun u s1 ⟨x, H1, I1, rx, a, C, dx, fs, v, ex, ea, c, n, l, q⟩ => ?_)
  subst ex
  obtain rfl : u = Value.ref a := rx
  exact getattr_ok I1 ea c n l fun u' s2 I2 ru => ⟨v, H1, I2, ru, q⟩
def rAdd : V → V → Hp → VK → Prop := fun x y H Q => ∃ i j, x = .int i ∧ y = .int j ∧ Q (.int (i + j)) H
def rSub : V → V → Hp → VK → Prop := fun x y H Q => ∃ i j, x = .int i ∧ y = .int j ∧ Q (.int (i - j)) H
theorem in_add : InOp X .Add rAdd := by
  rintro pins s σ H x y u v Q I rx ry ⟨i, j, rfl, rfl, q⟩
  obtain ⟨t, rfl⟩ := (show ∃ t, u = Value.int i t from rx)
  obtain ⟨t', rfl⟩ := (show ∃ t', v = Value.int j t' from ry)
  exact PyProof.Rows.iadd_int ⟨.int (i + j), H, I.tok _, ⟨_, rfl⟩, q⟩
end

section
variable {X : Cx} {pins : List (Addr × Obj)} {σ : St} {H : Hp} {s : Shared} {A : Around} {E : Value → Shared → Prop} {Q : Value → Shared → Prop} {c : Value} {b : Bool}
inductive TyOf (K : PySem.W.Frag) (H : Hp) : V → Value → Prop where
  | non : TyOf K H .non (.type "NoneType")
  | bl (x : Bool) : TyOf K H (.bl x) (.type "bool")
  | int (i : Int) : TyOf K H (.int i) (.type "int")
  | str (x : Str) : TyOf K H (.str x) (.type "str")
  | flt (x : UInt64) : TyOf K H (.flt x) (.type "float")
  | lst {a : Addr} {xs : List V} (e : H a = some (.lst xs)) : TyOf K H (.ref a) (.type "list")
  | frz {a : Addr} {o : Obj} {xs : List V} (e : H a = some (.frz o (.lst xs))) : TyOf K H (.ref a) (.type "list")
  | tup {a : Addr} {xs : List V} (e : H a = some (.tup xs)) : TyOf K H (.ref a) (.type "tuple")
  | dK {a : Addr} {kvs : List (Key × V)} (e : H a = some (.dK kvs)) : TyOf K H (.ref a) (.type "dict")
  | dT {a : Addr} {kvs : List (List Key × V)} (e : H a = some (.dT kvs)) : TyOf K H (.ref a) (.type "dict")
  | ins {a C dx : Addr} {fs : List (Str × V)} (e : H a = some (.ins C dx fs)) (cl : Cls K C) (ha : PySem.W.findIn K (.ref C) "__class__" = some (some (.builtin "object.__class__")))
      (hn : PySem.W.specialIn K (.builtin "object.__class__") "__get__" = some (some (.builtin "getset_descriptor.__get__"))) (htk : PySem.W.takesIn K (.builtin "object.__class__") = some true)
      (hm : PySem.W.mroIn K C (.type "object") = some true) : TyOf K H (.ref a) (.ref C)
theorem isinst_ok {x : V} {u t : Value} (I : Inv X pins σ H s) (rx : RelV x u) (ty : TyOf X.K H x t) (e : PySem.W.kitOne X.K t c = some b) (h : ∀ tk, Q (.bool b) { s with toks := tk }) :
    wpAny (model X.prog X.w) A (call (.builtin "isinstance") [u, c]) Q E s := by
  cases ty with
  | non => cases (show u = Value.none from rx); exact PySem.W.kia_one PySem.W.kitx_none I.kIn True.intro e (fun z => nomatch z) h
  | bl y => cases (show u = Value.bool y from rx); exact PySem.W.kia_one PySem.W.kitx_bool I.kIn True.intro e (fun z => nomatch z) h
  | int i => obtain ⟨t, q⟩ := (show ∃ t, u = Value.int i t from rx); cases q; exact PySem.W.kia_one PySem.W.kitx_int I.kIn True.intro e (fun z => nomatch z) h
  | str y => obtain ⟨t, q⟩ := (show ∃ t, u = Value.str y t from rx); cases q; exact PySem.W.kia_one PySem.W.kitx_str I.kIn True.intro e (fun z => nomatch z) h
  | flt y => obtain ⟨t, q⟩ := (show ∃ t, u = Value.float y t from rx); cases q; exact PySem.W.kia_one PySem.W.kitx_float I.kIn True.intro e (fun z => nomatch z) h
  | @lst a xs ea =>
    cases (show u = Value.ref a from rx)
    obtain ⟨_, _, n, _, h1⟩ := (show ObjOk X.prog X.w H s.heap a (.lst xs) from I.hok a _ ea)
    exact PySem.W.kia_one PySem.W.kitx_list I.kIn ⟨_, h1, rfl⟩ e (fun z => nomatch z) h
  | @frz a ob xs ea =>
    cases (show u = Value.ref a from rx)
    obtain ⟨_, _, _, n, _, h1⟩ := (show ObjOk X.prog X.w H s.heap a (.frz ob (.lst xs)) from I.hok a _ ea)
    exact PySem.W.kia_one PySem.W.kitx_list I.kIn ⟨_, h1, rfl⟩ e (fun z => nomatch z) h
  | @tup a xs ea =>
    cases (show u = Value.ref a from rx)
    obtain ⟨_, _, _, p⟩ := (show ObjOk X.prog X.w H s.heap a (.tup xs) from I.hok a _ ea)
    obtain ⟨o, h1, h2, _⟩ := p
    exact PySem.W.kia_one PySem.W.kitx_tuple I.kIn ⟨o, h1, h2⟩ e (fun z => nomatch z) h
  | @dK a kvs ea =>
    cases (show u = Value.ref a from rx)
    obtain ⟨_, _, vs, _, p⟩ := (show ObjOk X.prog X.w H s.heap a (.dK kvs) from I.hok a _ ea)
    obtain ⟨o, es, ep, h1, h2, _⟩ := p
    exact PySem.W.kia_one PySem.W.kitx_dict I.kIn ⟨o, h1, h2.1⟩ e (fun z => nomatch z) h
  | @dT a kvs ea =>
    cases (show u = Value.ref a from rx)
    obtain ⟨_, _, xs, _, o, es, ep, h1, h2, _⟩ := (show ObjOk X.prog X.w H s.heap a (.dT kvs) from I.hok a _ ea)
    exact PySem.W.kia_one PySem.W.kitx_dict I.kIn ⟨o, h1, h2.1⟩ e (fun z => nomatch z) h
  | @ins a C dx fs ea cl ha hn htk hm =>
    cases (show u = Value.ref a from rx)
    obtain ⟨mA, O, _⟩ := ins_get I.hok ea
    obtain ⟨od, J, _⟩ := O.look
    exact PySem.W.kia_one (PySem.W.kitx_own (cl.get _) cl.hd ha hn htk hm) I.kIn J e (fun z => nomatch z) h
end
end L2

namespace L2
open PySem PySem.Spec PyProof.Rows

structure Room (k : Nat) (A : Around) : Prop where
  hd : A.handled = none
  dp : A.depth + 3 * k + 5 < recursionLimit
  un : A.units + 16 * k + 200 < cLine
theorem Room.mono {j k : Nat} {A : Around} (r : Room k A) (h : j ≤ k) : Room j A := ⟨r.hd, by have := r.dp; omega, by have := r.un; omega⟩
theorem Room.deeper {k : Nat} {A : Around} (r : Room (k + 1) A) (env : Env) : Room k (A.deeper env) :=
  ⟨r.hd, by have := r.dp; show A.depth + 1 + 3 * k + 5 < _; omega, by have := r.un; show A.units + 3 + 16 * k + 200 < _; omega⟩
theorem Room.in1 {k : Nat} {A : Around} (r : Room (k + 1) A) : Room k A.in1 :=
  ⟨r.hd, by have := r.dp; show A.depth + 3 * k + 5 < _; omega, by have := r.un; show A.units + 1 + 16 * k + 200 < _; omega⟩
theorem make_depth {A : Around} {C : Addr} {us : List Value} {kw : List (Str × Value)} : (A.under (.builtin "type.__call__" ⟨.ref C :: us, kw⟩)).depth = A.depth + 1 := by
  first | rfl | simp [Around.under, Code.weight, Code.isCreation, Code.isGuard, Code.isCaller, Code.frames, Code.isFrame, guardIds]
theorem make_units {A : Around} {C : Addr} {us : List Value} {kw : List (Str × Value)} : (A.under (.builtin "type.__call__" ⟨.ref C :: us, kw⟩)).units = A.units + 1 := by
  first | rfl | simp [Around.under, Code.cUnits, Code.frames, Code.isFrame]
theorem Room.make {k : Nat} {A : Around} (r : Room (k + 1) A) (C : Addr) (us : List Value) (kw : List (Str × Value)) : Room k (A.under (.builtin "type.__call__" ⟨.ref C :: us, kw⟩)) :=
  ⟨r.hd, by have := r.dp; rw [make_depth]; omega, by have := r.un; rw [make_units]; omega⟩
theorem Room.depth {k : Nat} {A : Around} (r : Room k A) : A.depth < recursionLimit := by have := r.dp; omega
theorem Room.units {k : Nat} {A : Around} (r : Room k A) : A.units + 64 < cLine := by have := r.un; omega
def tNil : TA := fun _ H Q => Q [] H
def tCons (ta : TE) (tr : TA) : TA := fun σ H Q => ta σ H fun x H1 => tr σ H1 fun xs H2 => Q (x :: xs) H2
section
variable {X : Cx} {e : Expr} {es : List Expr} {te : TE} {t : TA} {pos : Pos}
theorem pa_nil : PA X [] tNil := fun _ _ _ _ H Q I h => Calls.spliced_nil ⟨[], H, I, .nil, h⟩
theorem pa_cons (ha : PE X e te) (hr : PA X es t) (hs : starEach (e :: es) X.env = (false, eval e X.env) :: starEach es X.env := by rfl) : PA X (e :: es) (tCons te t) := by
  intro pos pins s σ H Q I h
  rw [hs]
  show wpAny _ _ (spliced ((false, eval e X.env) :: backTo pos (starEach es X.env))) _ _ s
  refine Calls.spliced_cons (thn (ha pins s σ H _ I h) fun u s1 ⟨x, H1, I1, r1, q1⟩ => ?_)
  exact thn (hr pos pins s1 σ H1 _ I1 q1) fun us s2 ⟨xs, H2, I2, r2, q2⟩ => ⟨x :: xs, H2, I2, .cons r1 r2, q2⟩

def tTup (t : TA) : TE := fun σ H Q => t σ H fun xs H1 => xs.length ≤ sizeLine ∧ ∀ p, H1 p = none → Q (.ref p) (upd H1 p (.tup xs))
def tLst (t : TA) : TE := fun σ H Q => t σ H fun xs H1 => xs.length ≤ sizeLine ∧ ∀ p, H1 p = none → Q (.ref p) (upd H1 p (.lst xs))
end

abbrev Sp := List V → Hp → VK → XK → Prop
abbrev CXT := List Env → Hp → Shared → XK → Value → Shared → Prop

structure Env0 (P : Program) (w : World) (K : PySem.W.Frag) (mg : Str → Option Value) (base : Heap) (A : Around) (outer : List Env) (s : Shared) (H : Hp) : Prop where
  frames : A.frames = some outer
  mod : Mod K mg base
  bs : ∀ b o, base.get? b = some o → s.heap.get? b = some o ∧ H b = none
  bsz : base.objs.size ≤ s.heap.objs.size
  funs : s.heap.FunFrames base outer
  frf : ∀ b ∈ frs outer, H b = none
  hok : HOk P w H s.heap
  bare : AllBare s.gens
def CE (outer : List Env) (P : Program) (w : World) (H : Hp) (s : Shared) (Q : VK) (u : Value) (s' : Shared) : Prop :=
  ∃ v H', s'.os = s.os ∧ AllBare s'.gens ∧ Un (frs outer) [] H H' s.heap s'.heap ∧ HOk P w H' s'.heap ∧ RelV v u ∧ Q v H'
def CR (CX : CXT) (outer : List Env) (P : Program) (w : World) (H : Hp) (s : Shared) (Q : VK) (E : XK) (r : Result) (s' : Shared) : Prop :=
  match r with
  | .ok (.ret u) => CE outer P w H s Q u s'
  | .ok _ => False
  | .error e => CX outer H s E e s'
structure FnOk (P : Program) (w : World) (K : PySem.W.Frag) (mg : Str → Option Value) (base : Heap) (CX : CXT) (k : Nat) (f : Addr) (fd : FuncData) (ps : List Str) (sp : Sp) : Prop where
  len : ∀ vs H Q E, sp vs H Q E → vs.length = ps.length
  run : ∀ (A : Around) (outer : List Env) (s : Shared) (H : Hp) (args : Args) (us : List Value) (vs : List V) (Q : VK) (E : XK), Room k A → Env0 P w K mg base A outer s H → BindsTo s fd args (ps.zip us) → Vals vs us → sp vs H Q E →
    codeAny (model P w) A (.call (.ref f) args) (CR CX outer P w H s Q E) s
theorem FnOk.mono {P : Program} {w : World} {K : PySem.W.Frag} {mg : Str → Option Value} {base : Heap} {CX : CXT} {j k : Nat} {f : Addr} {fd : FuncData} {ps : List Str} {sp : Sp} (F : FnOk P w K mg base CX j f fd ps sp) (h : j ≤ k) :
    FnOk P w K mg base CX k f fd ps sp := ⟨F.len, fun A outer s H args us vs Q E hr => F.run A outer s H args us vs Q E (hr.mono h)⟩
theorem FnOk.imp {P : Program} {w : World} {K : PySem.W.Frag} {mg : Str → Option Value} {base : Heap} {CX : CXT} {k : Nat} {f : Addr} {fd : FuncData} {ps : List Str} {sp sp' : Sp} (F : FnOk P w K mg base CX k f fd ps sp)
    (h : ∀ vs H Q E, sp' vs H Q E → sp vs H Q E) : FnOk P w K mg base CX k f fd ps sp' :=
  ⟨fun vs H Q E q => F.len vs H Q E (h _ _ _ _ q), fun A outer s H args us vs Q E hr he hb hv hs => F.run A outer s H args us vs Q E hr he hb hv (h _ _ _ _ hs)⟩

theorem Env0.make {P : Program} {w : World} {K : PySem.W.Frag} {mg : Str → Option Value} {base : Heap} {A : Around} {outer : List Env} {s : Shared} {H : Hp} (e : Env0 P w K mg base A outer s H) (C : Addr) (us : List Value) (kw : List (Str × Value)) :
    Env0 P w K mg base (A.under (.builtin "type.__call__" ⟨.ref C :: us, kw⟩)) outer s H := ⟨by first | exact e.frames | (simpa [Around.under, Code.envs, Code.isFrame, pushEnvs] using e.frames), e.mod, e.bs, e.bsz, e.funs, e.frf, e.hok, e.bare⟩
theorem Env0.in1 {P : Program} {w : World} {K : PySem.W.Frag} {mg : Str → Option Value} {base : Heap} {A : Around} {outer : List Env} {s : Shared} {H : Hp} (e : Env0 P w K mg base A outer s H) :
    Env0 P w K mg base A.in1 outer s H := ⟨e.frames, e.mod, e.bs, e.bsz, e.funs, e.frf, e.hok, e.bare⟩

section
variable {X : Cx} {pins : List (Addr × Obj)} {σ : St} {H : Hp} {s s' : Shared}
theorem Inv.env0 (I : Inv X pins σ H s) : Env0 X.prog X.w X.K X.mg X.base X.A X.stack s H :=
  ⟨I.ok.frames, I.ok.mod, I.bs, Nat.le_trans I.ok.bsz I.sz, I.stack, I.stkFree, I.hok, I.bare⟩
theorem Inv.after {Q : VK} {u : Value} (I : Inv X pins σ H s) (h : CE X.stack X.prog X.w H s Q u s') : EP X pins σ Q u s' := by
  obtain ⟨v, H', os, bare, un, hok, r, q⟩ := h
  obtain ⟨hh, g, d, t, os'⟩ := s'
  obtain rfl : os' = s.os := os
  exact ⟨v, H', I.call (h' := hh) (g' := g) (d' := d) (t' := t) (ch := []) un hok bare (fun b z => absurd z (by simp)), r, q⟩
end

def tCall (sp : Sp) (dvs : List V) (E : XK) (t : TA) : TE := fun σ H Q => t σ H fun vs H1 => sp (vs ++ dvs) H1 Q E
def tMeth (C : Addr) (m : Str) (sp : Sp) (dvs : List V) (E : XK) (ta : TE) (t : TA) : TE := fun σ H Q => ta σ H fun x H1 => ∃ a dx fs, x = .ref a ∧ H1 a = some (.ins C dx fs) ∧ fs.lookup m = none ∧
  t σ H1 fun vs H2 => sp (x :: (vs ++ dvs)) H2 Q E
def tMake (C : Addr) (sp : Sp) (dvs : List V) (E : XK) (t : TA) : TE := fun σ H Q => t σ H fun vs H1 => ∀ x dx, H1 x = none → H1 dx = none → dx ≠ x →
  sp (.ref x :: (vs ++ dvs)) (upd (upd H1 dx (.own x)) x (.ins C dx [])) (fun v H2 => v = .non ∧ Q (.ref x) H2) E

def Binds (K : PySem.W.Frag) (fd : FuncData) (ps : List Str) (ds : List Value) : Prop :=
  ∀ (s : Shared) (us : List Value), K.In s.heap → (us ++ ds).length = ps.length → BindsTo s fd ⟨us, []⟩ (ps.zip (us ++ ds))
theorem Binds.all {K : PySem.W.Frag} {fd : FuncData} {ps : List Str} (h : ∀ us : List Value, us.length = ps.length → bindArgs fd ⟨us, []⟩ = pure (ps.zip us)) : Binds K fd ps [] := fun s us _ hl => by
  rw [List.append_nil] at hl ⊢
  exact .of_eq (h us hl)

def Passes (CX : CXT) (X : Cx) (E : XK) : Prop := ∀ (pins : List (Addr × Obj)) (σ : St) (H : Hp) (s : Shared) (e : Value) (s' : Shared), Inv X pins σ H s → CX X.stack H s E e s' → X.xe e s'

section
variable {X : Cx} {CX : CXT} {k : Nat} {f C : Addr} {fd : FuncData} {ps : List Str} {sp : Sp} {dvs : List V} {ds : List Value} {E : XK} {x m : Str} {p pos apos : Pos} {e o : Expr} {es : List Expr} {ta : TE} {t : TA}

theorem run_fn {pins : List (Addr × Obj)} {σ : St} {H : Hp} {s : Shared} {Q : VK} {us : List Value} {vs : List V} (F : FnOk X.prog X.w X.K X.mg X.base CX k f fd ps sp) (hr : Room k X.A) (hb : Binds X.K fd ps ds) (hd : Vals dvs ds) (hx : Passes CX X E)
    (I : Inv X pins σ H s) (r : Vals vs us) (h : sp (vs ++ dvs) H Q E) : wpAny (model X.prog X.w) X.A (call (.ref f) us) (EP X pins σ Q) X.xe s := by
  have r2 : Vals (vs ++ dvs) (us ++ ds) := r.append hd
  have hl : (us ++ ds).length = ps.length := by rw [← r2.length]; exact F.len _ _ _ _ h
  refine wpAny_call (codeAny_mono (F.run X.A X.stack s H ⟨us, []⟩ (us ++ ds) (vs ++ dvs) Q E hr I.env0 (hb s us I.kIn hl) r2 h) fun r s' hq => ?_)
  cases r with
  | error e => exact hx pins σ H s e s' I hq
  | ok fl =>
    cases fl with
    | ret u => exact I.after hq
    | next => exact False.elim hq
    | brk => exact False.elim hq
    | cont => exact False.elim hq

theorem pe_call (F : FnOk X.prog X.w X.K X.mg X.base CX k f fd ps sp) (hr : Room k X.A) (hg : Gl X x) (hm : X.mg x = some (.ref f)) (hk : PySem.W.keepIn X.K (.ref f) = true) (hb : Binds X.K fd ps ds) (hd : Vals dvs ds) (hx : Passes CX X E)
    (ha : PA X (e :: es) t) (hdb : (x == ("__debug__" : Str)) = false := by decide) (he : starEach (e :: es) X.env = (false, eval e X.env) :: starEach es X.env := by rfl) (hpl : (backTo pos (starEach es X.env)).any (·.1) = false := by rfl) :
    PE X (.Call (.Name x p) (e :: es) [] pos) (tCall sp dvs E t) := by
  intro pins s σ H Q I h
  refine wpAny_Call_Name_kw (ld_glob I hg hm ?_ hdb)
  refine PySem.W.callWith_K (h₀ := X.base) I.ok.mod.kin hk (thn (ha pos pins s σ H _ I h) fun us s1 ⟨vs, H1, I1, r, q⟩ => ⟨I1.kIn, ?_⟩) he hpl
  exact run_fn F hr hb hd hx I1 r q
structure Mk (K : PySem.W.Frag) (C f : Addr) : Prop where
  makes : PySem.W.makesIn K C = true
  init : PySem.W.findIn K (.ref C) "__init__" = some (some (.ref f))
  fn : PySem.W.isFn K (.ref f) = true
  kp : PySem.W.keepIn K (.ref C) = true

theorem run_make {pins : List (Addr × Obj)} {σ : St} {H : Hp} {s : Shared} {Q : VK} {us : List Value} {vs : List V} (M : Mk X.K C f) (F : FnOk X.prog X.w X.K X.mg X.base CX k f fd ps sp) (hr : Room (k + 1) X.A) (hb : Binds X.K fd ps ds) (hd : Vals dvs ds)
    (hx : Passes CX X E) (I : Inv X pins σ H s) (r : Vals vs us)
    (h : ∀ x dx, H x = none → H dx = none → dx ≠ x → sp (.ref x :: (vs ++ dvs)) (upd (upd H dx (.own x)) x (.ins C dx [])) (fun v H2 => v = .non ∧ Q (.ref x) H2) E) :
    wpAny (model X.prog X.w) X.A (call (.ref C) us) (EP X pins σ Q) X.xe s := by
  have hq := h (s.heap.objs.size + 1) s.heap.objs.size (I.hok.fresh (Nat.le_succ _)) (I.hok.fresh (Nat.le_refl _)) (Nat.ne_of_lt (Nat.lt_succ_self _))
  have I2 := Inv.made (C := C) I
  have r2 : Vals (V.ref (s.heap.objs.size + 1) :: (vs ++ dvs)) (Value.ref (s.heap.objs.size + 1) :: (us ++ ds)) := .cons rfl (r.append hd)
  have hl : (Value.ref (s.heap.objs.size + 1) :: us ++ ds).length = ps.length := by
    have e := r2.length
    rw [F.len _ _ _ _ hq] at e
    exact e.symm
  refine wpAny_call (make_map (f := f) I.kIn M.makes M.init (beq_iff_eq.mp M.fn) (codeAny_mono (F.run _ X.stack _ _ ⟨Value.ref (s.heap.objs.size + 1) :: us, []⟩ (Value.ref (s.heap.objs.size + 1) :: (us ++ ds)) _ _ E (hr.make C us [])
    (I2.env0.make C us []) (hb _ (Value.ref (s.heap.objs.size + 1) :: us) I2.kIn hl) r2 hq) fun r s' hq' => ?_))
  cases r with
  | error e => exact hx pins σ _ _ e s' I2 hq'
  | ok fl =>
    cases fl with
    | ret u =>
      obtain ⟨v, H', I3, rv, ev, q3⟩ := I2.after hq'
      subst ev
      exact ⟨rv, ⟨V.ref (s.heap.objs.size + 1), H', I3, rfl, q3⟩⟩
    | next => exact False.elim hq'
    | brk => exact False.elim hq'
    | cont => exact False.elim hq'
end

def PK (X : Cx) (kws : List Keyword) (t : TA) : Prop :=
  ∀ (pos : Pos) (pins : List (Addr × Obj)) (s : Shared) (σ : St) (H : Hp) (Q : List V → Hp → Prop), Inv X pins σ H s → t σ H Q → wpAny (model X.prog X.w) X.A (evalAll ((backToKw pos (keywordEach kws X.env)).map (·.2))) (AP X pins σ Q) X.xe s
section
variable {X : Cx} {CX : CXT} {k : Nat} {f C : Addr} {fd : FuncData} {ps ks : List Str} {sp : Sp} {E : XK} {x m : Str} {p pos apos kpos : Pos} {e o : Expr} {es : List Expr} {kws : List Keyword} {te ta : TE} {t tk : TA} {nm : Option Str}
theorem pk_nil : PK X [] tNil := fun _ _ _ _ H Q I h => wpAny_evalAll_nil ⟨[], H, I, .nil, h⟩
theorem pk_cons (ha : PE X e te) (hr : PK X kws t) : PK X (⟨nm, e, kpos⟩ :: kws) (tCons te t) := by
  intro pos pins s σ H Q I h
  show wpAny _ _ (evalAll ((do let v ← eval e X.env; standAt pos; pure v) :: (backToKw pos (keywordEach kws X.env)).map (·.2))) _ _ s
  refine wpAny_evalAll_cons (wpAny_bind (thn (ha pins s σ H _ I h) fun u s1 ⟨x, H1, I1, r1, q1⟩ => wpAny_bind (wpAny_standAt (wpAny_pure ?_))))
  exact thn (hr pos pins s1 σ H1 _ I1 q1) fun us s2 ⟨xs, H2, I2, r2, q2⟩ => ⟨x :: xs, H2, I2, .cons r1 r2, q2⟩

structure KBinds (K : PySem.W.Frag) (fd : FuncData) (ps ks : List Str) (g : List Value → List Value → List Value) (gV : List V → List V → List V) : Prop where
  to : ∀ (s : Shared) (us ws : List Value), K.In s.heap → (g us ws).length = ps.length → BindsTo s fd ⟨us, ks.zip ws⟩ (ps.zip (g us ws))
  rel : ∀ {vs : List V} {us : List Value} {zs : List V} {ws : List Value}, Vals vs us → Vals zs ws → Vals (gV vs zs) (g us ws)
def tCallK (sp : Sp) (gV : List V → List V → List V) (E : XK) (t tk : TA) : TE := fun σ H Q => t σ H fun vs H1 => tk σ H1 fun zs H2 => sp (gV vs zs) H2 Q E
variable {g : List Value → List Value → List Value} {gV : List V → List V → List V}
end

structure FnScope (N P : List Str) (sc : Scope) : Prop where
  kind : sc.kind = .function
  co : sc.isCoroutine = false
  gen : sc.isGenerator = false
  nd : N.Nodup
  pre : N.take P.length = P
  par : ∀ x ∈ P, sc.names.lookup x = some .local ∨ sc.names.lookup x = some .cell
  nofree : ∀ y ∈ sc.names, y.2 ≠ .free

theorem bindL_out {kindOf : Str → Option NameKind} {x : Str} : ∀ {binds : List (Str × Value)} {m : Str → Option Value}, (∀ v, (x, v) ∉ binds) → bindL kindOf binds m x = m x
  | [], _, _ => rfl
  | (n, v) :: r, m, h => by
    unfold bindL
    rw [bindL_out fun w hw => h w (List.mem_cons_of_mem _ hw)]
    split
    · have : x ≠ n := by rintro rfl; exact h v List.mem_cons_self
      simp [this]
    · rfl
theorem bindC_out {kindOf : Str → Option NameKind} {x : Str} : ∀ {binds : List (Str × Value)} {m : Str → Option Value}, (∀ v, (x, v) ∉ binds) → bindC kindOf binds m x = m x
  | [], _, _ => rfl
  | (n, v) :: r, m, h => by
    unfold bindC
    rw [bindC_out fun w hw => h w (List.mem_cons_of_mem _ hw)]
    split
    · rfl
    · have : x ≠ n := by rintro rfl; exact h v List.mem_cons_self
      simp [this]
theorem bindL_get {kindOf : Str → Option NameKind} {x : Str} {v : Value} : ∀ {P : List Str} {vs : List Value} {i : Nat} {m : Str → Option Value}, P.Nodup → P[i]? = some x → vs[i]? = some v → kindOf x = some .local →
    bindL kindOf (P.zip vs) m x = some v
  | [], _, _, _, _, h, _, _ => by simp at h
  | _ :: _, [], _, _, _, _, h, _ => by simp at h
  | p :: P, w :: vs, 0, m, nd, h1, h2, hk => by
    simp at h1 h2; subst h1; subst h2
    show bindL kindOf ((p, w) :: P.zip vs) m p = _
    unfold bindL
    rw [bindL_out fun v hv => (List.nodup_cons.mp nd).1 (List.of_mem_zip hv).1, if_pos hk]
    simp
  | p :: P, w :: vs, i + 1, m, nd, h1, h2, hk => by
    show bindL kindOf ((p, w) :: P.zip vs) m x = _
    unfold bindL
    exact bindL_get (i := i) (List.nodup_cons.mp nd).2 (by simpa using h1) (by simpa using h2) hk
theorem bindC_get {kindOf : Str → Option NameKind} {x : Str} {v : Value} : ∀ {P : List Str} {vs : List Value} {i : Nat} {m : Str → Option Value}, P.Nodup → P[i]? = some x → vs[i]? = some v → kindOf x ≠ some .local →
    bindC kindOf (P.zip vs) m x = some v
  | [], _, _, _, _, h, _, _ => by simp at h
  | _ :: _, [], _, _, _, _, h, _ => by simp at h
  | p :: P, w :: vs, 0, m, nd, h1, h2, hk => by
    simp at h1 h2; subst h1; subst h2
    show bindC kindOf ((p, w) :: P.zip vs) m p = _
    unfold bindC
    rw [bindC_out fun v hv => (List.nodup_cons.mp nd).1 (List.of_mem_zip hv).1, if_neg hk]
    simp
  | p :: P, w :: vs, i + 1, m, nd, h1, h2, hk => by
    show bindC kindOf ((p, w) :: P.zip vs) m x = _
    unfold bindC
    exact bindC_get (i := i) (List.nodup_cons.mp nd).2 (by simpa using h1) (by simpa using h2) hk

def start (N : List Str) (vs : List V) : St := vs.map some ++ List.replicate (N.length - vs.length) none

def cxOf (CX : CXT) (P : Program) (w : World) (K : PySem.W.Frag) (mg : Str → Option Value) (base : Heap) (N : List Str) (qual : Str) (scope : Scope) (f : Addr) (cd : Value) (A : Around) (outer : List Env) (s : Shared) (H : Hp) (E : XK) : Cx where
  prog := P
  w := w
  K := K
  mg := mg
  base := base
  A := A.deeper (envOfC qual scope s.heap.objs.size f cd)
  N := N
  s₀ := s
  H₀ := H
  env := envOfC qual scope s.heap.objs.size f cd
  outer := outer
  stack := envOfC qual scope s.heap.objs.size f cd :: outer
  ex := []
  calm := true
  fn := fun _ => true
  pn := []
  xe := fun e s' => wpAny (model P w) (A.deeper (envOfC qual scope s.heap.objs.size f cd)) (leaving (envOfC qual scope s.heap.objs.size f cd) e) (fun _ s'' => CX outer H s E e s'') (fun e' s'' => CX outer H s E e' s'') s'

theorem cell_has {sc : Scope} {n : Nat} {x : Str} (h : sc.names.lookup x = some .cell) : ∃ c, (cellsFrom n sc.names []).lookup x = some c := by
  have q := PySem.W.cellsFrom_some sc.names n [] (.inl h)
  exact Option.isSome_iff_exists.mp q

theorem inv_start {CX : CXT} {P : Program} {w : World} {K : PySem.W.Frag} {mg : Str → Option Value} {base : Heap} {N ps : List Str} {qual : Str} {scope : Scope} {f : Addr} {cd : Value} {A : Around} {outer : List Env} {s s1 : Shared} {H : Hp} {E : XK} {us : List Value} {vs : List V}
    (S : FnScope N ps scope) (hd : A.handled = none) (e0 : Env0 P w K mg base A outer s H) (hl : vs.length = ps.length) (r : Vals vs us)
    (x : InCallC s s.heap.objs.size (bindL (envOfC qual scope s.heap.objs.size f cd).kindOf (ps.zip us) fun _ => none) (cellsFrom (s.heap.objs.size + 1) scope.names []) (bindC (envOfC qual scope s.heap.objs.size f cd).kindOf (ps.zip us) fun _ => none) s1) :
    Inv (cxOf CX P w K mg base N qual scope f cd A outer s H E) [] (start N vs) H s1 := by
  have hpl : ps.length ≤ N.length := by have := congrArg List.length S.pre; rw [List.length_take] at this; omega
  obtain ⟨h1, tk, rfl, hk⟩ := x.done
  have noA : ∀ b : Addr, b ∉ (cxOf CX P w K mg base N qual scope f cd A outer s H E).ex := fun b z => absurd (show b ∈ ([] : List Addr) from z) (by simp)
  refine ⟨⟨e0.mod, S.kind, rfl, rfl, Nat.le_refl _, fun y z c h1 h2 => ?_, fun y hy => ?_, fun y c _ h => ?_, fun _ => hd, Around.frames_deeper e0.frames, .inr ⟨rfl, rfl⟩, fun b z => absurd z (noA b), e0.bs, e0.bsz, fun b _ _ => noA b, fun b z => absurd z (noA b), e0.funs, e0.frf⟩,
    rfl, e0.bare, Un.kept hk, ⟨_, x.toInCall.ns, fun i y v h1 h2 h3 => ?_⟩, fun y c h => ⟨_, x.cell y c h⟩, e0.hok.fresh (Nat.le_refl _), fun y c h => ?_, fun p hp => absurd (show p ∈ ([] : List (Addr × Obj)) from hp) (by simp), e0.hok.kept hk, ?_⟩
  · exact name_of_addr x.apart (PySem.mem_of_lookup h1) (PySem.mem_of_lookup h2)
  · have hy : scope.names.lookup y = some .cell ∨ scope.names.lookup y = some .free := hy
    rcases hy with hy | hy
    · exact cell_has hy
    · exact absurd rfl (S.nofree _ (PySem.mem_of_lookup hy))
  · exact Nat.le_of_lt (x.above y c (PySem.mem_of_lookup h))
  · have hi : i < vs.length := by
      unfold start at h2
      by_cases hi : i < vs.length
      · exact hi
      · rw [List.getElem?_append_right (by simpa using hi)] at h2
        rw [List.getElem?_replicate] at h2
        split at h2 <;> cases h2
    have ha : vs[i]? = some v := by
      unfold start at h2
      rw [List.getElem?_append_left (by simpa using hi), List.getElem?_map] at h2
      cases e : vs[i]? with
      | none => rw [e] at h2; cases h2
      | some a => rw [e] at h2; cases h2; rfl
    obtain ⟨u, hu, rv⟩ := r.get ha
    have hp : ps[i]? = some y := by
      rw [← S.pre, List.getElem?_take_of_lt (by omega)]; exact h1
    have ndP : ps.Nodup := by rw [← S.pre]; exact S.nd.sublist (List.take_sublist _ _)
    refine ⟨u, rv, ?_⟩
    rcases S.par y (List.mem_of_getElem? hp) with k | k
    · exact .inl ⟨k, bindL_get ndP hp hu k⟩
    · obtain ⟨c, e⟩ := cell_has (n := s.heap.objs.size + 1) k
      refine .inr ⟨.inl k, c, e, ?_⟩
      have q := x.cell y c e
      rw [bindC_get ndP hp hu (by show scope.names.lookup y ≠ _; rw [k]; decide)] at q
      exact q
  · exact e0.hok.fresh (Nat.le_of_lt (x.above y c (PySem.mem_of_lookup h)))
  · unfold start
    show _ = N.length
    rw [List.length_append, List.length_map, List.length_replicate]
    omega

theorem fn_of {CX : CXT} {P : Program} {w : World} {K : PySem.W.Frag} {mg : Str → Option Value} {base : Heap} {k : Nat} {f : Addr} {name qual : Str} {params : Arguments} {body : List Stmt} {scope : Scope} {dV kV doc pm cdv ct oc : Value} {an od : Option Addr}
    {osl : Array (Option Value)} {N ps : List Str} {sp : Sp} (lk : K.lookup f = some ⟨oc, od, .func (PySem.W.fnOf name qual params body scope dV kV doc pm an cdv ct), osl⟩) (hcd : PySem.W.codeIn K cdv qual = true) (S : FnScope N ps scope)
    (len : ∀ vs H Q E, sp vs H Q E → vs.length = ps.length)
    (hbody : ∀ (A : Around) (outer : List Env) (s : Shared) (H : Hp) (vs : List V) (Q : VK) (E : XK), Room k (A.deeper (envOfC qual scope s.heap.objs.size f cdv)) → sp vs H Q E →
      ∃ t, PSs (cxOf CX P w K mg base N qual scope f cdv A outer s H E) body t ∧ t { nx := fun _ H' => Q .non H', rt := Q } (start N vs) H) :
    FnOk P w K mg base CX (k + 1) f (PySem.W.fnOf name qual params body scope dV kV doc pm an cdv ct) ps sp := by
  refine ⟨len, fun A outer s H args us vs Q E hr e0 hb r hsp => ?_⟩
  have hl := len _ _ _ _ hsp
  have KX : K.In s.heap := e0.mod.kin.keeps fun b o e => (e0.bs b o e).1
  have lim : s.heap.NoLimit := e0.mod.nolimit.keeps fun b o e => (e0.bs b o e).1
  have hkind : ∀ y ∈ ps.zip us, scope.names.lookup y.1 = some .local ∨ (scope.names.lookup y.1 = some .cell ∧ ((cellsFrom (s.heap.objs.size + 1) scope.names []).lookup y.1).isSome = true) := fun ⟨n, v⟩ hy => by
    rcases S.par n (List.of_mem_zip hy).1 with q | q
    · exact .inl q
    · exact .inr ⟨q, PySem.W.cellsFrom_some _ _ _ (.inl q)⟩
  refine codeAny_call_function hr.depth (KX _ _ lk) rfl S.co S.gen rfl (PySem.W.codeRec_of KX hcd) (hb _ _ _ _ ?_)
  refine wpAny_newFunctionEnv_cells S.kind hkind fun env he s1 x => ?_
  subst he
  refine ⟨lim.keeps x.toInCall.keep, codeAny_func ?_⟩
  obtain ⟨t, ht, hq⟩ := hbody A outer s H vs Q E (hr.deeper _) hsp
  have I : Inv (cxOf CX P w K mg base N qual scope f cdv A outer s H E) [] (start N vs) H s1 := inv_start S hr.hd e0 hl r x
  refine wpAny_mono (ht [] s1 (start N vs) H _ I hq) (fun fl s' hs => ?_) fun e s' hs => hs
  have fin : ∀ {σ' : St} {H' : Hp} {v : V} {u : Value}, Inv (cxOf CX P w K mg base N qual scope f cdv A outer s H E) [] σ' H' s' → RelV v u → Q v H' → CE outer P w H s Q u s' :=
    fun {σ' H' v u} J rv q => ⟨v, H', J.os, J.bare, J.base, J.hok, rv, q⟩
  cases fl with
  | ret u =>
    obtain ⟨v, σ', H', J, rv, q⟩ := hs
    exact fin J rv q
  | next =>
    obtain ⟨σ', H', J, q⟩ := hs
    exact fin (v := V.non) (u := Value.none) J rfl q
  | brk =>
    obtain ⟨_, _, _, q⟩ := hs
    exact False.elim q
  | cont =>
    obtain ⟨_, _, _, q⟩ := hs
    exact False.elim q
end L2

namespace L2
open PySem PySem.Spec PyProof.Rows
section
variable {X : Cx} {x : Str} {p pos : Pos} {e : Expr} {es : List Expr} {t : TA} {id T : String} {r : List V → Hp → VK → Prop}

def tCB (r : List V → Hp → VK → Prop) (t : TA) : TE := fun σ H Q => t σ H fun vs H1 => r vs H1 Q
theorem pe_callB (hc : CallR X (.builtin id) r) (hg : Gl X x) (hm : X.mg x = none) (hv : bootBuiltins x = some (.builtin id)) (ha : PA X (e :: es) t) (hn : x ≠ "__name__" := by decide) (hdb : (x == ("__debug__" : Str)) = false := by decide)
    (he : starEach (e :: es) X.env = (false, eval e X.env) :: starEach es X.env := by rfl) (hpl : (backTo pos (starEach es X.env)).any (·.1) = false := by rfl) : PE X (.Call (.Name x p) (e :: es) [] pos) (tCB r t) := by
  intro pins s σ H Q I h
  refine wpAny_Call_Name_kw (ld_blt I hg hm hv ?_ hn hdb)
  exact PyProof.Rows.callWith_builtin1 (thn (ha pos pins s σ H _ I h) fun us s1 ⟨vs, H1, I1, r1, q1⟩ => hc pins s1 σ H1 vs us Q I1 r1 q1) he hpl
theorem pe_callTy (hc : CallR X (.type T) r) (hg : Gl X x) (hm : X.mg x = none) (hv : bootBuiltins x = some (.type T)) (ha : PA X (e :: es) t) (hn : x ≠ "__name__" := by decide) (hdb : (x == ("__debug__" : Str)) = false := by decide)
    (he : starEach (e :: es) X.env = (false, eval e X.env) :: starEach es X.env := by rfl) (hpl : (backTo pos (starEach es X.env)).any (·.1) = false := by rfl) : PE X (.Call (.Name x p) (e :: es) [] pos) (tCB r t) := by
  intro pins s σ H Q I h
  refine wpAny_Call_Name_kw (ld_blt I hg hm hv ?_ hn hdb)
  exact PyProof.Rows.callWith_type1 (thn (ha pos pins s σ H _ I h) fun us s1 ⟨vs, H1, I1, r1, q1⟩ => hc pins s1 σ H1 vs us Q I1 r1 q1) he hpl
end
end L2

namespace HT
open PySem PyProof.Rows

def lexLt : List Int → List Int → Bool
  | [], [] => false
  | [], _ :: _ => true
  | _ :: _, [] => false
  | x :: xs, y :: ys => if x = y then lexLt xs ys else decide (x < y)
section
open PySem.SeqAt
open PySem.AutoSeq1 (wpAny_loadPart')
open PySem.MeetsSeq PySem.MeetsSeq2 PySem.MeetsSeq3

end

section
variable {prog : Program} {w : World} {A : Around} {E : Value → Shared → Prop} {s : Shared}

def sIx (n d : Nat) : Option Int → Nat
  | none => d
  | some v => if v < 0 then (v + (n : Int)).toNat else min v.toNat n
theorem sIx_none (n d : Nat) : sIx n d none = d := rfl
theorem sIx_nat (n d k : Nat) : sIx n d (some (k : Int)) = min k n := by
  show (if (k : Int) < 0 then ((k : Int) + (n : Int)).toNat else min (k : Int).toNat n) = min k n
  rw [if_neg (by omega), Int.toNat_natCast]
theorem sIx_le (n d : Nat) (hd : d ≤ n) (o : Option Int) : sIx n d o ≤ n := by
  cases o with
  | none => exact hd
  | some v =>
    show (if v < 0 then (v + (n : Int)).toNat else min v.toNat n) ≤ n
    by_cases hv : v < 0
    · rw [if_pos hv]; omega
    · rw [if_neg hv]; exact Nat.min_le_right _ _
theorem clip_eq (v : Int) (n d : Nat) : (if v < 0 then max (v + (n : Int)) 0 else min v (n : Int)) = ((sIx n d (some v) : Nat) : Int) := by
  show (if v < 0 then max (v + (n : Int)) 0 else min v (n : Int)) = (((if v < 0 then (v + (n : Int)).toNat else min v.toNat n) : Nat) : Int)
  by_cases hv : v < 0
  · simp only [if_pos hv]; omega
  · simp only [if_neg hv]; omega
theorem adjust_gen (lo hi : Option Int) (n : Nat) : Builtin.Slice.sliceAdjust lo hi 1 (n : Int) = (((sIx n 0 lo : Nat) : Int), ((sIx n n hi : Nat) : Int)) := by
  have h1 : ¬ ((1 : Int) < 0) := by omega
  unfold Builtin.Slice.sliceAdjust
  simp only [h1, if_false]
  refine Prod.ext ?_ ?_
  · cases lo with
    | none => rfl
    | some v => exact clip_eq v n 0
  · cases hi with
    | none => rfl
    | some v => exact clip_eq v n n
theorem places_gen (i j : Nat) : Builtin.Slice.slicePlaces (i : Int) (j : Int) 1 = j - i := by
  unfold Builtin.Slice.slicePlaces
  have h1 : (1 : Int) > 0 := by omega
  simp only [h1, if_true, Int.ediv_one]
  split <;> omega
theorem slicePart_ {v : Value} {o : Option Int} {Q : Option Int → Shared → Prop} (p : IsPart v o) (h : Q o s) : wpAny (model prog w) A (Builtin.Slice.slicePartIndex v) Q E s := by
  cases p with
  | none => exact slicePart_none h
  | int i t => exact slicePart_int h
theorem sliceApplied_gen {sl : Addr} {vl vu : Value} {lo hi : Option Int} {n : Nat} {Q : Int × Int × Nat → Shared → Prop} (hs : s.heap.IsSliceOf sl vl vu .none) (pl : IsPart vl lo) (pu : IsPart vu hi)
    (h : Q (((sIx n 0 lo : Nat) : Int), 1, sIx n n hi - sIx n 0 lo) s) : wpAny (model prog w) A (Builtin.Slice.sliceApplied (.ref sl) (pure (n : Int))) Q E s := by
  obtain ⟨os, hos, hcs, hds⟩ := id hs
  unfold Builtin.Slice.sliceApplied Builtin.Slice.sliceFields
  refine wpAny_bind (wpAny_bind (wpAny_field hos hds (x := vl) rfl (wpAny_bind (wpAny_field hos hds (x := vu) rfl (wpAny_bind (wpAny_field hos hds (x := .none) rfl (wpAny_pure ?_)))))))
  refine wpAny_bind (slicePart_none ?_)
  show wpAny _ _ (if ((1 : Int) == 0) = true then _ else _) _ _ s
  rw [if_neg (by decide)]
  refine wpAny_bind (slicePart_ pl (wpAny_bind (slicePart_ pu (wpAny_bind (wpAny_pure ?_)))))
  show wpAny _ _ (match Builtin.Slice.sliceAdjust lo hi 1 (n : Int) with | (lo, hi) => pure (lo, (1 : Int), Builtin.Slice.slicePlaces lo hi 1)) _ _ s
  rw [adjust_gen lo hi n]
  show wpAny _ _ (pure (((sIx n 0 lo : Nat) : Int), (1 : Int), Builtin.Slice.slicePlaces ((sIx n 0 lo : Nat) : Int) ((sIx n n hi : Nat) : Int) 1)) _ _ s
  rw [places_gen]
  exact wpAny_pure h
theorem pick_gen (xs : Array Value) (i k : Nat) : ((List.range k).filterMap fun (m : Nat) => xs[((i : Int) + (m : Int) * 1).toNat]?).toArray = ((xs.toList.drop i).take k).toArray := by
  have e : (fun (m : Nat) => xs[((i : Int) + (m : Int) * 1).toNat]?) = fun m => xs[i + m]? := by
    funext m
    have : ((i : Int) + (m : Int) * 1).toNat = i + m := by omega
    rw [this]
  rw [e]
  have := pick_run xs i k
  rw [List.filterMap_map] at this
  have e2 : ((fun x => xs[x]?) ∘ fun x => i + x) = fun m => xs[i + m]? := rfl
  rw [e2] at this
  rw [this]

theorem getItem_tuple_cut {t sl : Addr} {items : Array Value} {vl vu : Value} {lo hi : Option Int} {Q : Value → Shared → Prop} (ht : IsTup s.heap t items) (hs : s.heap.IsSliceOf sl vl vu .none) (pl : IsPart vl lo) (pu : IsPart vu hi)
    (hw : ¬ (sIx items.size 0 lo = 0 ∧ sIx items.size items.size hi = items.size))
    (h : Q (.ref s.heap.objs.size) { s with heap := s.heap.push { cls := .type "tuple", data := .seq ((items.toList.drop (sIx items.size 0 lo)).take (sIx items.size items.size hi - sIx items.size 0 lo)).toArray } })
    (hsz : items.size ≤ sizeLine) : wpAny (model prog w) A (getItem (.ref t) (.ref sl)) Q E s := by
  have htake : sizeOk (.seq ((items.toList.drop (sIx items.size 0 lo)).take (sIx items.size items.size hi - sIx items.size 0 lo)).toArray) := by
    show ((items.toList.drop (sIx items.size 0 lo)).take (sIx items.size items.size hi - sIx items.size 0 lo)).toArray.size ≤ sizeLine
    rw [List.size_toArray, List.length_take, List.length_drop, Array.length_toList]
    omega
  have hj : sIx items.size items.size hi ≤ items.size := sIx_le _ _ (Nat.le_refl _) hi
  obtain ⟨os, hos, hcs, hds⟩ := id hs
  have hTs : s.TypeIs (.ref sl) "slice" := ⟨os, hos, hcs⟩
  unfold getItem
  try with_reducible refine wpAny_holding ?_
  first | refine wpAny_bind (wpAny_pure ?_) | skip
  refine wpAny_bind (wpAny_sequenceKey ht.typeIs (by decide) ?_)
  refine wpAny_bind (wpAny_callSpecial?_slot (name := Str.ofString "__getitem__") ht.typeIs PyProof.Rows.slot_tuple_getitem
    (wpAny_call_entry PyProof.Rows.slot_tuple_getitem ht.typeIs entry_tuple_getitem ?_ (args_tuple_getitem _ _)))
  show wpAny _ _ (Builtin.Tuple.tupleItemsOf (.ref t) >>= _) _ _ s
  refine wpAny_bind (tupleItemsOf_ ht ?_)
  refine wpAny_bind (wpAny_typeOf hTs ?_)
  rw [if_pos (by decide)]
  refine wpAny_bind (sliceApplied_gen hs pl pu ?_)
  have hno : ¬ ((((sIx items.size 0 lo : Nat) : Int) == 0 && (1 : Int) == 1 && (sIx items.size items.size hi - sIx items.size 0 lo) == items.size) = true) := by
    intro q
    rw [Bool.and_eq_true, Bool.and_eq_true] at q
    have q1 : ((sIx items.size 0 lo : Nat) : Int) = 0 := eq_of_beq q.1.1
    have q2 : sIx items.size items.size hi - sIx items.size 0 lo = items.size := eq_of_beq q.2
    exact hw ⟨by omega, by omega⟩
  show wpAny _ _ (if (((sIx items.size 0 lo : Nat) : Int) == 0 && (1 : Int) == 1 && (sIx items.size items.size hi - sIx items.size 0 lo) == items.size) = true then _ else _) _ _ s
  rw [if_neg hno, pick_gen]
  first
    | exact wpAny_bind (m := Builtin.Tuple.tupleExact _) (wpAny_newObj_type (wpAny_pure ⟨_, rfl, wpAny_pure h⟩) htake)
    | exact wpAny_bind (m := Builtin.Tuple.tupleExact _) (wpAny_newObj_type (wpAny_bind (wpAny_pure (wpAny_pure ⟨_, rfl, wpAny_pure h⟩))) htake)
    | exact wpAny_bind (wpAny_bind (m := Builtin.Tuple.tupleExact _) (wpAny_newObj_type (wpAny_pure (wpAny_pure ⟨_, rfl, wpAny_pure h⟩)) htake))
    | exact wpAny_bind (wpAny_bind (m := Builtin.Tuple.tupleExact _) (wpAny_newObj_type (wpAny_pure ⟨_, rfl, wpAny_pure h⟩) htake))
end
end HT

namespace L2
open PySem PySem.Spec PyProof.Rows

abbrev TO := St → Hp → (Option Int → Hp → Prop) → Prop
def PO (X : Cx) (e : Option Expr) (t : TO) : Prop :=
  ∀ (pins : List (Addr × Obj)) (s : Shared) (σ : St) (H : Hp) (Q : Option Int → Hp → Prop), Inv X pins σ H s → t σ H Q →
    wpAny (model X.prog X.w) X.A (evalPart e X.env) (fun u s' => ∃ o H', Inv X pins σ H' s' ∧ IsPart u o ∧ Q o H') X.xe s
def tNoPart : TO := fun _ H Q => Q none H
def tPart (t : TE) : TO := fun σ H Q => t σ H fun x H1 => ∃ i, x = .int i ∧ Q (some i) H1

section
variable {X : Cx} {e : Expr} {te : TE} {lo hi : Option Expr} {tl th : TO} {pos p2 : Pos}

theorem po_none : PO X none tNoPart := by
  intro pins s σ H Q I h
  rw [evalPart_none]
  exact wpAny_pure ⟨none, H, I, .none, h⟩
theorem po_some (h : PE X e te) : PO X (some e) (tPart te) := by
  intro pins s σ H Q I hw
  rw [evalPart_some]
  refine thn (h pins s σ H _ I hw) fun u s1 ⟨x, H1, I1, r1, q1⟩ => ?_
  obtain ⟨i, rfl, q⟩ := q1
  obtain ⟨t, rfl⟩ := r1
  exact ⟨some i, H1, I1, .int i t, q⟩

def SlR (X : Cx) (r : V → Option Int → Option Int → Hp → VK → Prop) : Prop :=
  ∀ (pins : List (Addr × Obj)) (s : Shared) (σ : St) (H : Hp) (x : V) (v vl vu : Value) (lo hi : Option Int) (sl : Addr) (Q : VK), Inv X pins σ H s → RelV x v → s.heap.IsSliceOf sl vl vu .none → IsPart vl lo → IsPart vu hi → r x lo hi H Q →
    ∃ T id, typeLookup (.type T) "__getitem__" = pure (some (.builtin id)) ∧ s.TypeIs v T ∧ wpAny (model X.prog X.w) X.A (getItem v (.ref sl)) (EP X pins σ Q) X.xe s
theorem SlR.or {r r' : V → Option Int → Option Int → Hp → VK → Prop} (h : SlR X r) (h' : SlR X r') : SlR X (fun x lo hi H Q => r x lo hi H Q ∨ r' x lo hi H Q) := by
  intro pins s σ H x v vl vu lo hi sl Q I rx hs pl pu q
  rcases q with q | q
  · exact h pins s σ H x v vl vu lo hi sl Q I rx hs pl pu q
  · exact h' pins s σ H x v vl vu lo hi sl Q I rx hs pl pu q
def tSl (r : V → Option Int → Option Int → Hp → VK → Prop) (te : TE) (tl th : TO) : TE := fun σ H Q => te σ H fun x H1 => tl σ H1 fun l H2 => th σ H2 fun u H3 => r x l u H3 Q
theorem pe_slice {r : V → Option Int → Option Int → Hp → VK → Prop} (hr : SlR X r) (he : PE X e te) (hl : PO X lo tl) (hu : PO X hi th) : PE X (.Subscript e (.Slice lo hi none p2) pos) (tSl r te tl th) := by
  intro pins s σ H Q I h
  refine Subscript_ (thn (he pins s σ H _ I h) fun v s1 ⟨x, H1, I1, r1, q1⟩ => ?_)
  refine wpAny_Slice (thn (hl pins s1 σ H1 _ I1 q1) fun vl s2 ⟨l, H2, I2, pl, q2⟩ => thn (hu pins s2 σ H2 _ I2 q2) fun vu s3 ⟨u, H3, I3, pu, q3⟩ => ?_)
  rw [evalPart_none]
  refine wpAny_pure ?_
  have I4 : Inv X pins σ H3 { s3 with heap := s3.heap.push { cls := .type "slice", data := .fields #[vl, vu, .none] } } := I3.kept (t' := s3.toks) fun b ob q => Heap.get?_push_of_some _ q
  obtain ⟨T, id, hT, ht, hg⟩ := hr pins { s3 with heap := s3.heap.push { cls := .type "slice", data := .fields #[vl, vu, .none] } } σ H3 x v vl vu l u s3.heap.objs.size Q I4 r1 (Heap.IsSliceOf.new ..) pl pu q3
  show wpAny (model X.prog X.w) X.A (subscriptTail e (.Slice lo hi none p2) v (.ref s3.heap.objs.size)) (EP X pins σ Q) X.xe { s3 with heap := s3.heap.push { cls := .type "slice", data := .fields #[vl, vu, .none] } }
  exact tail_any (ops := [.ref s3.heap.objs.size, v]) ht hT hg (by with_unfolding_all rfl)

def cutV (xs : List V) (lo hi : Option Int) : List V := (xs.drop (HT.sIx xs.length 0 lo)).take (HT.sIx xs.length xs.length hi - HT.sIx xs.length 0 lo)
theorem cutV_length (xs : List V) (lo hi : Option Int) : (cutV xs lo hi).length ≤ xs.length := by
  unfold cutV
  rw [List.length_take, List.length_drop]
  omega
def rSlT (K : PySem.W.Frag) : V → Option Int → Option Int → Hp → VK → Prop := fun x lo hi H Q => ∃ a xs, x = .ref a ∧ SqT K H a xs ∧
  ¬ (HT.sIx xs.length 0 lo = 0 ∧ HT.sIx xs.length xs.length hi = xs.length) ∧ ∀ p, H p = none → Q (.ref p) (upd H p (.tup (cutV xs lo hi)))
theorem sl_tup : SlR X (rSlT X.K) := by
  intro pins s σ H x v vl vu lo hi sl Q I rx hs pl pu h
  obtain ⟨a, xs, rfl, hx, hw, q⟩ := h
  cases rx
  obtain ⟨its, r, ht, hz⟩ := I.tuple hx
  have hlen : its.toArray.size = xs.length := by rw [List.size_toArray]; exact r.length.symm
  refine ⟨"tuple", _, PyProof.Rows.slot_tuple_getitem.lookup, ht.typeIs, ?_⟩
  refine HT.getItem_tuple_cut ht hs pl pu (by rw [hlen]; exact hw) ?_ (by rw [hlen]; exact hz)
  rw [hlen]
  refine ⟨.ref s.heap.objs.size, _, I.laid (t' := s.toks) (o := .tup (cutV xs lo hi)) (fun b ob q => Heap.get?_push_of_some _ q) (Nat.le_refl _) ?_, rfl, q _ (I.hok.fresh (Nat.le_refl _))⟩
  exact ⟨Nat.le_trans (cutV_length xs lo hi) hz, _, (r.drop (HT.sIx xs.length 0 lo)).take (HT.sIx xs.length xs.length hi - HT.sIx xs.length 0 lo), IsTup.new _ _⟩

def rLtT (K : PySem.W.Frag) : R2 := fun x y H Q => ∃ a b ns ms, x = .ref a ∧ y = .ref b ∧ SqT K H a (ns.map V.int) ∧ SqT K H b (ms.map V.int) ∧ Q (.bl (HT.lexLt ns ms)) H
def rCatT (K : PySem.W.Frag) : R2 := fun x y H Q => ∃ a b xs ys, x = .ref a ∧ y = .ref b ∧ SqT K H a xs ∧ SqT K H b ys ∧ xs ≠ [] ∧ xs.length + ys.length ≤ sizeLine ∧
  (ys = [] → Q (.ref a) H) ∧ (ys ≠ [] → ∀ p, H p = none → Q (.ref p) (upd H p (.tup (xs ++ ys))))
end
end L2

namespace L2
open PySem PySem.Spec PyProof.Rows

def ixN (n : Nat) (i : Int) : Option Nat := if 0 ≤ i then (if i < n then some i.toNat else none) else if -(n : Int) ≤ i then some (i + n).toNat else none
def atI {α : Type} (xs : List α) (i : Int) : Option α := (ixN xs.length i).bind fun j => xs[j]?
theorem ixN_seq {n : Nat} {i : Int} {j : Nat} (h : ixN n i = some j) : seqIndex? i n = some j ∧ j < n ∧ -(n : Int) ≤ i ∧ i < n := by
  unfold ixN at h
  by_cases h0 : 0 ≤ i
  · rw [if_pos h0] at h
    by_cases h1 : i < n
    · rw [if_pos h1] at h
      have e : i.toNat = j := Option.some.inj h
      exact ⟨by rw [seqIndex_of h0 h1, e], by omega, by omega, h1⟩
    · rw [if_neg h1] at h; cases h
  · rw [if_neg h0] at h
    by_cases h1 : -(n : Int) ≤ i
    · rw [if_pos h1] at h
      have e : (i + n).toNat = j := Option.some.inj h
      exact ⟨by rw [seqIndex_neg (by omega) h1, e], by omega, h1, by omega⟩
    · rw [if_neg h1] at h; cases h
theorem atI_get {α : Type} {xs : List α} {i : Int} {v : α} (h : atI xs i = some v) : ∃ j, seqIndex? i xs.length = some j ∧ xs[j]? = some v ∧ j < xs.length ∧ -(xs.length : Int) ≤ i ∧ i < xs.length := by
  unfold atI at h
  cases e : ixN xs.length i with
  | none => rw [e] at h; cases h
  | some j =>
    rw [e] at h
    obtain ⟨h1, h2, h3, h4⟩ := ixN_seq e
    exact ⟨j, h1, h, h2, h3, h4⟩
theorem atI_nat {α : Type} {xs : List α} {j : Nat} {v : α} (h : xs[j]? = some v) : atI xs (j : Int) = some v := by
  have hj : j < xs.length := (List.getElem?_eq_some_iff.mp h).1
  have e : ixN xs.length (j : Int) = some j := by
    unfold ixN
    rw [if_pos (by omega), if_pos (by omega)]; simp
  unfold atI; rw [e]; exact h
def PlainIx (b : Expr) : Prop := ∀ o i, subscripted b false o i = operate [o, i] (getItem o i)
def IxR (X : Cx) (r : R2) : Prop :=
  ∀ (value slice : Expr) (pins : List (Addr × Obj)) (s : Shared) (σ : St) (H : Hp) (x y : V) (v u : Value) (Q : VK), Inv X pins σ H s → RelV x v → RelV y u → r x y H Q →
    subscripted slice false v u = operate [v, u] (getItem v u) → wpAny (model X.prog X.w) X.A (subscriptTail value slice v u) (EP X pins σ Q) X.xe s
def MtR (X : Cx) (id : String) (r : V → List V → Hp → VK → Prop) : Prop :=
  ∀ (pins : List (Addr × Obj)) (s : Shared) (σ : St) (H : Hp) (x : V) (xs : List V) (v : Value) (us : List Value) (Q : VK), Inv X pins σ H s → RelV x v → Vals xs us → r x xs H Q →
    wpAny (model X.prog X.w) X.A (call (.builtin id) (v :: us)) (EP X pins σ Q) X.xe s
section
variable {X : Cx} {a b : Expr} {ta tb : TE} {pos : Pos}
theorem IxR.or {r r' : R2} (h : IxR X r) (h' : IxR X r') : IxR X (fun x y H Q => r x y H Q ∨ r' x y H Q) := by
  intro value slice pins s σ H x y v u Q I rx ry q hs
  rcases q with q | q
  · exact h value slice pins s σ H x y v u Q I rx ry q hs
  · exact h' value slice pins s σ H x y v u Q I rx ry q hs
theorem MtR.or {id : String} {r r' : V → List V → Hp → VK → Prop} (h : MtR X id r) (h' : MtR X id r') : MtR X id (fun x xs H Q => r x xs H Q ∨ r' x xs H Q) := by
  intro pins s σ H x xs v us Q I rx rs q
  rcases q with q | q
  · exact h pins s σ H x xs v us Q I rx rs q
  · exact h' pins s σ H x xs v us Q I rx rs q
theorem pe_ix {r : R2} (hr : IxR X r) (ha : PE X a ta) (hb : PE X b tb) (hs : PlainIx b) : PE X (.Subscript a b pos) (tOp r ta tb) := by
  intro pins s σ H Q I h
  exact Subscript_ (binT ha hb I h fun v u s2 x y H2 I2 rx ry q => hr a b pins s2 σ H2 x y v u Q I2 rx ry q (hs _ _))

def rIxL (K : PySem.W.Frag) : R2 := fun x y H Q => ∃ p xs i v, x = .ref p ∧ y = .int i ∧ SqL K H p xs ∧ atI xs i = some v ∧ Q v H
def rIxT (K : PySem.W.Frag) : R2 := fun x y H Q => ∃ p xs i v, x = .ref p ∧ y = .int i ∧ SqT K H p xs ∧ atI xs i = some v ∧ Q v H
def rIxS : R2 := fun x y H Q => ∃ z i c, x = .str z ∧ y = .int i ∧ z.length ≤ sizeLine ∧ atI z.cps.toList i = some c ∧ Q (.str ⟨#[c]⟩) H
theorem ix_list : IxR X (rIxL X.K) := by
  intro value slice pins s σ H x y v u Q I rx ry h hs
  obtain ⟨p, xs, i, z, rfl, rfl, hq, he, q⟩ := h
  cases rx
  obtain ⟨t, rfl⟩ := ry
  obtain ⟨its, r, pl, hz⟩ := I.list hq
  obtain ⟨j, h1, h2, h3, h4, h5⟩ := atI_get he
  obtain ⟨w, ew, rw'⟩ := r.get h2
  have hl := r.length
  have hn := line63
  have fin : EP X pins σ Q w s := ⟨z, H, I, rw', q⟩
  by_cases h0 : 0 ≤ i
  · have hj : i.toNat = j := by
      rw [seqIndex_of h0 h5] at h1
      exact Option.some.inj h1
    exact item_listR pl.isList h0 (by omega) (by rw [hj]; simpa using ew) fin hs
  · have hj : (i + (its.toArray.size : Int)).toNat = j := by
      rw [seqIndex_neg (by omega) h4] at h1
      rw [List.size_toArray, ← hl]
      exact Option.some.inj h1
    exact subscriptTail_builtinR (x := w) pl.isList.typeIs slot_list_getitem.lookup
      (wpAny_getItem_list_neg (Q := fun r s' => r = w ∧ EP X pins σ Q r s') pl.isList (by omega) (by rw [List.size_toArray] <;> omega) (by omega) (by rw [hj]; simpa using ew) ⟨rfl, fin⟩) hs
theorem ix_tup : IxR X (rIxT X.K) := by
  intro value slice pins s σ H x y v u Q I rx ry h hs
  obtain ⟨p, xs, i, z, rfl, rfl, hq, he, q⟩ := h
  cases rx
  obtain ⟨t, rfl⟩ := ry
  obtain ⟨its, r, pl, hz⟩ := I.tuple hq
  obtain ⟨j, h1, h2, h3, h4, h5⟩ := atI_get he
  obtain ⟨w, ew, rw'⟩ := r.get h2
  have hl := r.length
  have hn := line63
  have fin : EP X pins σ Q w s := ⟨z, H, I, rw', q⟩
  exact subscriptTail_builtinR (x := w) pl.typeIs slot_tuple_getitem.lookup
    (getItem_tuple (j := j) (Q := fun r s' => r = w ∧ EP X pins σ Q r s') pl (by omega) (by omega) (by rw [List.size_toArray, ← hl]; exact h1) (by simpa using ew) ⟨rfl, fin⟩) hs
theorem ix_str : IxR X rIxS := by
  intro value slice pins s σ H x y v u Q I rx ry h hs
  obtain ⟨z, i, c, rfl, rfl, hz, he, q⟩ := h
  obtain ⟨t, rfl⟩ := rx
  obtain ⟨t', rfl⟩ := ry
  obtain ⟨j, h1, h2, h3, h4, h5⟩ := atI_get he
  have hl : z.cps.toList.length = z.length := by simp [Str.length]
  rw [hl] at h1 h4 h5
  have hn := line63
  exact tail_any (typeIs_str s z t) slot_str_getitem.lookup (getItem_str (c := c) (by
    have e1 : decide (i < -(2 ^ 63 : Int)) = false := decide_eq_false (by omega)
    have e2 : decide (i ≥ 2 ^ 63) = false := decide_eq_false (by omega)
    rw [e1, e2, Bool.or_false]) (by rw [h1]; simpa using h2) ⟨.str ⟨#[c]⟩, H, I.tok _, ⟨_, rfl⟩, q⟩) hs
def rIx (K : PySem.W.Frag) : R2 := fun x y H Q => rIxL K x y H Q ∨ rIxT K x y H Q ∨ rIxS x y H Q
theorem Inv.lst {pins : List (Addr × Obj)} {σ : St} {H : Hp} {s : Shared} {p : Addr} {xs : List V} (I : Inv X pins σ H s) (h : H p = some (.lst xs)) :
    ∃ (its : List Value) (n : Nat), Vals xs its ∧ s.heap.get? p = some { cls := .type "list", data := .seq its.toArray n } ∧ xs.length ≤ sizeLine := by
  obtain ⟨z, its, n, r, e⟩ := I.hok p _ h
  exact ⟨its, n, r, e, z⟩
def rSetL : V → V → V → Hp → (Hp → Prop) → Prop := fun o i v H Q => ∃ p xs k j, o = .ref p ∧ i = .int k ∧ H p = some (.lst xs) ∧ ixN xs.length k = some j ∧ Q (upd H p (.lst (xs.set j v)))
theorem slice_bounds (lo hi : Option Int) (n : Nat) : (sliceBounds lo hi none n).1 = ((HT.sIx n 0 lo : Nat) : Int) ∧ (sliceBounds lo hi none n).2.1 = ((HT.sIx n n hi : Nat) : Int) ∧ (sliceBounds lo hi none n).2.2 = 1 := by
  refine ⟨?_, ?_, rfl⟩
  · cases lo with
    | none => simp [sliceBounds, HT.sIx]
    | some i =>
      simp only [sliceBounds, HT.sIx, Option.getD_none, show (1 : Int) > 0 by decide, if_true]
      by_cases h : i < 0
      · simp only [h, if_true] <;> omega
      · simp only [h, if_false] <;> omega
  · cases hi with
    | none => simp [sliceBounds, HT.sIx]
    | some i =>
      simp only [sliceBounds, HT.sIx, Option.getD_none, show (1 : Int) > 0 by decide, if_true]
      by_cases h : i < 0
      · simp only [h, if_true] <;> omega
      · simp only [h, if_false] <;> omega
theorem slicePick_cut (its : List Value) (lo hi : Option Int) : slicePick its.toArray lo hi none = ((its.drop (HT.sIx its.length 0 lo)).take (HT.sIx its.length its.length hi - HT.sIx its.length 0 lo)).toArray := by
  obtain ⟨h1, h2, h3⟩ := slice_bounds lo hi its.toArray.size
  unfold slicePick
  rw [h1, h2, h3]
  simp only [sliceRange_one, pick_run, List.size_toArray] <;> rfl
def rSlL (K : PySem.W.Frag) : V → Option Int → Option Int → Hp → VK → Prop := fun x lo hi H Q => ∃ a xs, x = .ref a ∧ SqL K H a xs ∧ ∀ p, H p = none → Q (.ref p) (upd H p (.lst (cutV xs lo hi)))
theorem sl_list : SlR X (rSlL X.K) := by
  intro pins s σ H x v vl vu lo hi sl Q I rx hs pl pu h
  obtain ⟨a, xs, rfl, hx, q⟩ := h
  cases rx
  obtain ⟨its, r, ht, hz⟩ := I.list hx
  have hlen := r.length
  refine ⟨"list", _, slot_list_getitem.lookup, ht.isList.typeIs, ?_⟩
  refine wpAny_getItem_list_slice ht.isList hs pl pu .none (by simp) ?_ (by rw [List.size_toArray] <;> omega)
  rw [slicePick_cut, ← hlen]
  refine ⟨.ref s.heap.objs.size, _, I.laid (t' := s.toks) (o := .lst (cutV xs lo hi)) (fun b ob q => Heap.get?_push_of_some _ q) (Nat.le_refl _) ?_, rfl, q _ (I.hok.fresh (Nat.le_refl _))⟩
  exact ⟨Nat.le_trans (cutV_length xs lo hi) hz, _, 0, (r.drop (HT.sIx xs.length 0 lo)).take (HT.sIx xs.length xs.length hi - HT.sIx xs.length 0 lo), Heap.get?_push_size _ rfl⟩

def flatV : V → Bool
  | .non => true
  | .bl _ => true
  | .int _ => true
  | .str _ => true
  | _ => false
def eqV : V → V → Bool
  | .non, .non => true
  | .bl a, .bl b => a == b
  | .bl a, .int b => (if a then 1 else 0) == b
  | .int a, .bl b => a == (if b then 1 else 0)
  | .int a, .int b => a == b
  | .str a, .str b => a == b
  | _, _ => false
theorem eqAt_V {A : Around} {s : Shared} {y x : V} {u v : Value} (ry : RelV y u) (rx : RelV x v) (fy : flatV y = true) (fx : flatV x = true) : SeqAt.EqAt A s u v (eqV y x) := by
  cases y with
  | non =>
    cases ry
    cases x with
    | non => cases rx; exact SeqAt.EqAt.same _
    | bl b => cases rx; exact SeqAt.EqAt.none_bool b
    | int b => obtain ⟨t, rfl⟩ := rx; exact SeqAt.EqAt.none_int b t
    | str b => obtain ⟨t, rfl⟩ := rx; exact SeqAt.EqAt.none_str b t
    | _ => exact absurd (show false = true from fx) Bool.false_ne_true
  | bl a =>
    cases ry
    cases x with
    | non => cases rx; exact SeqAt.EqAt.bool_none a
    | bl b => cases rx; exact SeqAt.EqAt.bool_bool a b
    | int b => obtain ⟨t, rfl⟩ := rx; exact SeqAt.EqAt.bool_int a b t
    | str b => obtain ⟨t, rfl⟩ := rx; exact SeqAt.EqAt.bool_str a b t
    | _ => exact absurd (show false = true from fx) Bool.false_ne_true
  | int a =>
    obtain ⟨t', rfl⟩ := ry
    cases x with
    | non => cases rx; exact SeqAt.EqAt.int_none a t'
    | bl b => cases rx; exact SeqAt.EqAt.int_bool a t' b
    | int b => obtain ⟨t, rfl⟩ := rx; exact SeqAt.EqAt.int_int a t' b t
    | str b => obtain ⟨t, rfl⟩ := rx; exact SeqAt.EqAt.int_str a t' b t
    | _ => exact absurd (show false = true from fx) Bool.false_ne_true
  | str a =>
    obtain ⟨t', rfl⟩ := ry
    cases x with
    | non => cases rx; exact SeqAt.EqAt.str_none a t'
    | bl b => cases rx; exact SeqAt.EqAt.str_bool a t' b
    | int b => obtain ⟨t, rfl⟩ := rx; exact SeqAt.EqAt.str_int a t' b t
    | str b => obtain ⟨t, rfl⟩ := rx; exact SeqAt.EqAt.str_str a t' b t
    | _ => exact absurd (show false = true from fx) Bool.false_ne_true
  | _ => exact absurd (show false = true from fy) Bool.false_ne_true
def eqU (x : V) (u : Value) : Bool := match u with
  | .none => eqV .non x
  | .bool b => eqV (.bl b) x
  | .int i _ => eqV (.int i) x
  | .str z _ => eqV (.str z) x
  | _ => false
theorem eqU_of {x y : V} {u : Value} (r : RelV y u) (f : flatV y = true) : eqU x u = eqV y x := by
  cases y with
  | non => cases r; rfl
  | bl b => cases r; rfl
  | int i => obtain ⟨t, rfl⟩ := r; rfl
  | str z => obtain ⟨t, rfl⟩ := r; rfl
  | _ => exact absurd (show false = true from f) Bool.false_ne_true
theorem any_eqU {x : V} : ∀ {xs : List V} {us : List Value}, Vals xs us → xs.all flatV = true → us.any (eqU x) = xs.any fun y => eqV y x
  | _, _, .nil, _ => rfl
  | y :: xs, u :: us, .cons r t, f => by
    rw [List.all_cons, Bool.and_eq_true] at f
    rw [List.any_cons, List.any_cons, eqU_of r f.1, any_eqU t f.2]
theorem mem_eqAt {A : Around} {s : Shared} {x : V} {v : Value} (rx : RelV x v) (fx : flatV x = true) : ∀ {xs : List V} {us : List Value}, Vals xs us → xs.all flatV = true → ∀ u ∈ us, SeqAt.EqAt A s u v (eqU x u)
  | _, _, .nil, _ => fun u hu => by cases hu
  | y :: xs, u :: us, .cons r t, f => fun u' hu => by
    rw [List.all_cons, Bool.and_eq_true] at f
    rcases List.mem_cons.mp hu with rfl | hu
    · rw [eqU_of r f.1]; exact eqAt_V r rx f.1 fx
    · exact mem_eqAt rx fx t f.2 u' hu
def inV (x : V) (xs : List V) : Bool := xs.any fun y => eqV y x
def rIn (K : PySem.W.Frag) (neg : Bool) : R2 := fun x y H Q => ∃ p xs, y = .ref p ∧ (SqL K H p xs ∨ SqT K H p xs) ∧ flatV x = true ∧ xs.all flatV = true ∧ Q (.bl (if neg then !inV x xs else inV x xs)) H
theorem op_notIn_seq : OpR X (compareOp .NotIn) (rIn X.K true) := by
  intro pins s σ H x y v u Q I rx ry h
  obtain ⟨p, xs, rfl, hq, fx, fs, q⟩ := h
  cases ry
  rcases hq with hq | hq
  · obtain ⟨its, r, pl, hz⟩ := I.list hq
    refine SeqAt.notIn_listAt (eqU x) pl.isList (fun w hw => mem_eqAt rx fx r fs w (by simpa using hw)) ⟨.bl _, H, I, rfl, ?_⟩
    rw [show its.toArray.any (eqU x) = its.any (eqU x) by simp, any_eqU r fs]
    exact q
  · obtain ⟨its, r, pl, hz⟩ := I.tuple hq
    refine SeqAt.notIn_tupleAt (eqU x) pl (fun w hw => mem_eqAt rx fx r fs w (by simpa using hw)) ⟨.bl _, H, I, rfl, ?_⟩
    rw [show its.toArray.any (eqU x) = its.any (eqU x) by simp, any_eqU r fs]
    exact q
theorem op_notIn_str : OpR X (compareOp .NotIn) (fun x y H Q => ∃ i j, x = .str i ∧ y = .str j ∧ Q (.bl (!(!(Builtin.Str.occurrences j i 0 j.length 1).isEmpty))) H) := by
  intro pins s σ H x y v u Q I rx ry h
  obtain ⟨i, j, rfl, rfl, q⟩ := h
  obtain ⟨t, rfl⟩ := rx
  obtain ⟨t', rfl⟩ := ry
  exact notIn_str ⟨.bl _, H, I, rfl, q⟩

theorem call_len_seq : CallR X (.builtin "len") (fun xs H Q => ∃ p ys, xs = [.ref p] ∧ (SqL X.K H p ys ∨ SqT X.K H p ys) ∧ Q (.int ys.length) H) := by
  intro pins s σ H xs us Q I r h
  obtain ⟨p, ys, rfl, hq, q⟩ := h
  obtain ⟨u, rfl, rx⟩ := vals1 r
  cases rx
  have hn := line63
  rcases hq with hq | hq
  · obtain ⟨its, r', pl, hz⟩ := I.list hq
    have hlen := r'.length
    exact Calls.call_len_list pl.isList (by simp only [List.size_toArray] <;> omega) ⟨.int ys.length, H, I.tok _, ⟨s.toks + 1, by rw [List.size_toArray, hlen]⟩, q⟩
  · obtain ⟨its, r', pl, hz⟩ := I.tuple hq
    have hlen := r'.length
    exact len_tuple pl (by simp only [List.size_toArray] <;> omega) ⟨.int ys.length, H, I.tok _, ⟨s.toks + 1, by rw [List.size_toArray, hlen]⟩, q⟩
theorem call_len_str : CallR X (.builtin "len") (fun xs H Q => ∃ z, xs = [.str z] ∧ z.length ≤ sizeLine ∧ Q (.int z.length) H) := by
  intro pins s σ H xs us Q I r h
  obtain ⟨z, rfl, hz, q⟩ := h
  obtain ⟨u, rfl, t, rfl⟩ := vals1 r
  have hn := line63
  exact len_str (by omega) ⟨.int z.length, H, I.tok _, ⟨_, rfl⟩, q⟩
theorem CallR.or {f : Value} {r r' : List V → Hp → VK → Prop} (h : CallR X f r) (h' : CallR X f r') : CallR X f (fun xs H Q => r xs H Q ∨ r' xs H Q) := by
  intro pins s σ H xs us Q I rs q
  rcases q with q | q
  · exact h pins s σ H xs us Q I rs q
  · exact h' pins s σ H xs us Q I rs q
theorem call_list_of : CallR X (.type "list") (fun xs H Q => ∃ p ys, xs = [.ref p] ∧ (SqL X.K H p ys ∨ SqT X.K H p ys) ∧ ∀ l, H l = none → Q (.ref l) (upd H l (.lst ys))) := by
  intro pins s σ H xs us Q I r h
  obtain ⟨p, ys, rfl, hq, q⟩ := h
  obtain ⟨u, rfl, rx⟩ := vals1 r
  cases rx
  have fin : ∀ (its : List Value), Vals ys its → ys.length ≤ sizeLine → ∀ (h' : Heap) (c' : Nat), (∀ b o', s.heap.get? b = some o' → h'.get? b = some o') →
      h'.get? s.heap.objs.size = some { cls := .type "list", dict := none, data := .seq its.toArray c', slots := #[] } → EP X pins σ Q (.ref s.heap.objs.size) { s with heap := h' } := fun its r' hz h' c' kp e =>
    ⟨.ref s.heap.objs.size, _, I.laid (t' := s.toks) kp (Nat.le_refl _) (show ObjOk X.prog X.w _ h' _ (.lst ys) from ⟨hz, its, c', r', e⟩), rfl, q _ (I.hok.fresh (Nat.le_refl _))⟩
  rcases hq with hq | hq
  · obtain ⟨its, r', pl, hz⟩ := I.list hq
    have hlen := r'.length
    obtain ⟨o, ho, hc, n, hd⟩ := pl.isList
    exact call_list_seq p (.inl rfl) ho hc hd (fun h' c' kp e => fin its r' hz h' c' kp e) (by simp only [List.size_toArray] <;> omega)
  · obtain ⟨its, r', pl, hz⟩ := I.tuple hq
    have hlen := r'.length
    obtain ⟨o, ho, hc, n, hd⟩ := pl
    exact call_list_seq p (.inr rfl) ho hc hd (fun h' c' kp e => fin its r' hz h' c' kp e) (by simp only [List.size_toArray] <;> omega)
theorem call_tuple_of : CallR X (.type "tuple") (fun xs H Q => ∃ p ys, xs = [.ref p] ∧ ((SqL X.K H p ys ∧ ∀ l, H l = none → Q (.ref l) (upd H l (.tup ys))) ∨ (SqT X.K H p ys ∧ Q (.ref p) H))) := by
  intro pins s σ H xs us Q I r h
  obtain ⟨p, ys, rfl, h⟩ := h
  obtain ⟨u, rfl, rx⟩ := vals1 r
  cases rx
  rcases h with ⟨hq, q⟩ | ⟨hq, q⟩
  · obtain ⟨its, r', pl, hz⟩ := I.list hq
    have hlen := r'.length
    refine call_tuple_list pl.isList (fun h' kp => ?_) (by simp only [List.size_toArray] <;> omega)
    have I1 : Inv X pins σ H { s with heap := h' } := I.kept (t' := s.toks) kp
    have I2 : Inv X pins σ (upd H h'.objs.size (.tup ys)) { s with heap := h'.push { cls := .type "tuple", data := .seq its.toArray } } :=
      I1.laid (t' := s.toks) (fun b o e => Heap.get?_push_of_some _ e) (Nat.le_refl _) (show ObjOk X.prog X.w _ _ _ (.tup ys) from ⟨hz, its, r', IsTup.new _ _⟩)
    exact ⟨.ref h'.objs.size, _, I2, rfl, q _ (I1.hok.fresh (Nat.le_refl _))⟩
  · obtain ⟨its, r', pl, hz⟩ := I.tuple hq
    exact call_tuple_same pl ⟨.ref p, H, I, rfl, q⟩

def tyV (K : PySem.W.Frag) (T : String) (x : V) (H : Hp) : Prop := match x with
  | .str _ => T = "str"
  | .int _ => T = "int"
  | .ref p => (T = "list" ∧ ∃ xs, SqL K H p xs) ∨ (T = "tuple" ∧ ∃ o, K.lookup p = some o ∧ o.cls = .type "tuple" ∧ o.dict = none) ∨
      (T = "dict" ∧ ((∃ kvs, H p = some (.dK kvs)) ∨ ∃ kvs, H p = some (.dT kvs))) ∨ (T = "set" ∧ ∃ S n, H p = some (.set S n))
  | _ => False
theorem tyV_is {pins : List (Addr × Obj)} {σ : St} {H : Hp} {s : Shared} {T : String} {x : V} {v : Value} (I : Inv X pins σ H s) (r : RelV x v) (ty : tyV X.K T x H) :
    s.TypeIs v T ∧ ∀ a, v = .ref a → ∃ ob, s.heap.get? a = some ob ∧ ob.dict = none := by
  cases x with
  | str z =>
    obtain ⟨t, rfl⟩ := r
    cases (show T = "str" from ty)
    exact ⟨typeIs_str s z t, fun _ e => nomatch e⟩
  | int i =>
    obtain ⟨t, rfl⟩ := r
    cases (show T = "int" from ty)
    exact ⟨typeIs_int s i t, fun _ e => nomatch e⟩
  | ref p =>
    cases r
    rcases ty with ⟨rfl, xs, hq⟩ | ⟨rfl, o, hk, hc, hd⟩ | ⟨rfl, hk⟩ | ⟨rfl, S, n, hk⟩
    · obtain ⟨its, _, pl, _⟩ := I.list hq
      refine ⟨pl.isList.typeIs, fun a e => ?_⟩
      cases e
      obtain ⟨o, n, e, c, hd, _⟩ := pl
      exact ⟨o, e, hd⟩
    · refine ⟨⟨o, I.kIn p o hk, hc⟩, fun a e => ?_⟩
      cases e
      exact ⟨o, I.kIn _ o hk, hd⟩
    · have z : ∃ o, s.heap.get? p = some o ∧ o.ExactDict := by
        rcases hk with ⟨kvs, hk⟩ | ⟨kvs, hk⟩
        · obtain ⟨_, _, _, _, o, _, _, e, ex, _⟩ := I.hok p _ hk
          exact ⟨o, e, ex⟩
        · obtain ⟨_, _, _, _, o, _, _, e, ex, _⟩ := I.hok p _ hk
          exact ⟨o, e, ex⟩
      obtain ⟨o, e, ex⟩ := z
      refine ⟨⟨o, e, ex.1⟩, fun a e2 => ?_⟩
      cases e2
      exact ⟨o, e, ex.2.1⟩
    · obtain ⟨o, _, _, _, e, ex, _⟩ := I.hok p _ hk
      refine ⟨⟨o, e, ex.1⟩, fun a e2 => ?_⟩
      cases e2
      exact ⟨o, e, ex.2.1⟩
  | _ => exact False.elim ty
def tBM0 (K : PySem.W.Frag) (T : String) (r : V → List V → Hp → VK → Prop) (to : TE) : TE := fun σ H Q => to σ H fun x H1 => tyV K T x H1 ∧ r x [] H1 Q
def tBM (K : PySem.W.Frag) (T : String) (r : V → List V → Hp → VK → Prop) (to : TE) (t : TA) : TE := fun σ H Q => to σ H fun x H1 => tyV K T x H1 ∧ t σ H1 fun xs H2 => r x xs H2 Q
variable {o e : Expr} {es : List Expr} {to : TE} {t : TA} {name : Str} {apos cpos : Pos} {T id : String} {r : V → List V → Hp → VK → Prop}
/- xs.append(e), list.index on a module's tuple .. are MtR facts of 06m -/
end
end L2

namespace L2
open PySem PySem.Spec PyProof.Rows

def MtM (X : Cx) (id : String) (r : V → List V → Hp → VK → Prop) : Prop :=
  ∀ (pins : List (Addr × Obj)) (s : Shared) (σ : St) (H : Hp) (x : V) (xs : List V) (v : Value) (us : List Value) (Q : VK), Inv X pins σ H s → RelV x v → Vals xs us → r x xs H Q →
    wpAny (model X.prog X.w) X.A (call (.builtin id) (v :: us)) (EP X pins σ Q) X.xe s

theorem Vals.one : ∀ {x : V} {us : List Value}, Vals [x] us → ∃ u, us = [u] ∧ RelV x u
  | _, _, .cons r .nil => ⟨_, rfl, r⟩
theorem Vals.two : ∀ {x y : V} {us : List Value}, Vals [x, y] us → ∃ u v, us = [u, v] ∧ RelV x u ∧ RelV y v
  | _, _, _, .cons r (.cons q .nil) => ⟨_, _, rfl, r, q⟩
theorem Vals.zero : ∀ {us : List Value}, Vals [] us → us = []
  | _, .nil => rfl
theorem Vals.dropLast {xs : List V} {us : List Value} (h : Vals xs us) : Vals xs.dropLast us.dropLast := by
  induction h with
  | nil => exact .nil
  | cons r t ih =>
    cases t with
    | nil => exact .nil
    | cons q t' => exact .cons r ih
theorem Vals.eraseIdx : ∀ {xs : List V} {us : List Value} (i : Nat), Vals xs us → Vals (xs.eraseIdx i) (us.eraseIdx i)
  | _, _, _, .nil => .nil
  | _, _, 0, .cons _ t => t
  | _, _, i + 1, .cons r t => .cons r (Vals.eraseIdx i t)
theorem Vals.reverse {xs : List V} {us : List Value} (h : Vals xs us) : Vals xs.reverse us.reverse := by
  induction h with
  | nil => exact .nil
  | cons r t ih => rw [List.reverse_cons, List.reverse_cons]; exact Vals.append ih (.cons r .nil)
theorem Vals.rep {xs : List V} {us : List Value} (h : Vals xs us) : ∀ k : Nat, Vals (List.replicate k xs).flatten (List.replicate k us).flatten
  | 0 => .nil
  | k + 1 => by
    rw [List.replicate_succ, List.replicate_succ, List.flatten_cons, List.flatten_cons]
    exact Vals.append h (Vals.rep h k)
theorem foldl_rep (its : List Value) : ∀ (k : Nat) (acc : List Value),
    List.foldl (fun x1 x2 => x1 ++ x2) acc.toArray (List.replicate k its.toArray) = (acc ++ (List.replicate k its).flatten).toArray
  | 0, acc => by simp
  | k + 1, acc => by
    have e : acc.toArray ++ its.toArray = (acc ++ its).toArray := by simp
    have e2 : (acc ++ its) ++ (List.replicate k its).flatten = acc ++ (List.replicate (k + 1) its).flatten := by
      rw [List.replicate_succ, List.flatten_cons, List.append_assoc]
    rw [← e2, ← foldl_rep its k (acc ++ its), ← e, List.replicate_succ, List.foldl_cons]

section
variable {X : Cx} {pins : List (Addr × Obj)} {σ : St} {H : Hp} {s : Shared} {l b : Addr} {xs ys zs : List V}

theorem Inv.lset {its its' : List Value} {n : Nat} {f : Array Value → Array Value} {t' : Nat} (I : Inv X pins σ H s) (hH : H l = some (.lst xs))
    (e : s.heap.get? l = some { cls := .type "list", data := .seq its.toArray n }) (hf : f its.toArray = its'.toArray) (hv : Vals ys its') (hz : ys.length ≤ sizeLine) :
    Inv X pins σ (upd H l (.lst ys)) { s with heap := s.heap.update l (Obj.mapSeq f), toks := t' } := by
  have q := PySem.IsL.update e f
  rw [hf] at q
  refine I.write (x := l) (e := l) (by rw [hH]; exact trivial) (.inl rfl) (fun b' u hb hu => (Heap.get?_update_other s.heap (Obj.mapSeq f) (Ne.symm hb)).trans hu) ⟨_, q⟩ ?_
  exact ⟨hz, its', _, hv, q⟩
theorem Inv.lnew {its : List Value} {t' : Nat} (I : Inv X pins σ H s) (hv : Vals ys its) (hz : ys.length ≤ sizeLine) :
    Inv X pins σ (upd H s.heap.objs.size (.lst ys)) { s with heap := s.heap.push { cls := .type "list", data := .seq its.toArray }, toks := t' } :=
  I.laid (fun _ _ q => Heap.get?_push_of_some _ q) (Nat.le_refl _) ⟨hz, its, 0, hv, Heap.get?_push_size _ rfl⟩
theorem Inv.fresh (I : Inv X pins σ H s) : H s.heap.objs.size = none := I.hok.fresh (Nat.le_refl _)
theorem Inv.lstM (I : Inv X pins σ H s) (hH : H l = some (.lst xs)) : xs.length ≤ sizeLine ∧ ∃ (its : List Value) (n : Nat), Vals xs its ∧ xs.length = its.length ∧ s.heap.get? l = some { cls := .type "list", data := .seq its.toArray n } := by
  obtain ⟨z, its, n, r, e⟩ := I.hok l _ hH
  exact ⟨z, its, n, r, r.length, e⟩

theorem notLongL {n : Nat} (h : n ≤ sizeLine) : Builtin.List.listTooLong n = false := by
  unfold Builtin.List.listTooLong
  exact decide_eq_false (by omega)
end

section
variable {X : Cx}

def rAppend : V → List V → Hp → VK → Prop := fun x vs H Q => ∃ l xs y, x = .ref l ∧ vs = [y] ∧ H l = some (.lst xs) ∧ xs.length < sizeLine ∧ Q .non (upd H l (.lst (xs ++ [y])))
theorem mt_append : MtM X "list.append" rAppend := by
  intro pins s σ H x vs v us Q I rx rv h
  obtain ⟨l, xs, y, rfl, rfl, hH, hz, q⟩ := h
  cases rx
  obtain ⟨u, rfl, ru⟩ := rv.one
  obtain ⟨z, its, n, r, hl, e⟩ := I.lstM hH
  refine call_meets F.slot_list_append ⟨_, e, rfl⟩ F.entry_list_append (F.args_list_append_2 _ _) (PySem.list_append l its.toArray n u (by rw [List.size_toArray]; omega)) ⟨e, ?_⟩
  refine ⟨.non, _, I.lset (its' := its ++ [u]) hH e (by simp) (r.append (.cons ru .nil)) ?_, rfl, q⟩
  rw [List.length_append, List.length_singleton]
  omega

def rExtend : V → List V → Hp → VK → Prop := fun x vs H Q => ∃ l b xs zs, x = .ref l ∧ vs = [.ref b] ∧ H l = some (.lst xs) ∧ H b = some (.lst zs) ∧ xs.length + zs.length ≤ sizeLine ∧ Q .non (upd H l (.lst (xs ++ zs)))
def rPop : V → List V → Hp → VK → Prop := fun x vs H Q => ∃ l xs y, x = .ref l ∧ vs = [] ∧ H l = some (.lst xs) ∧ xs[xs.length - 1]? = some y ∧ Q y (upd H l (.lst xs.dropLast))
def rPopAt : V → List V → Hp → VK → Prop := fun x vs H Q => ∃ l xs i k y, x = .ref l ∧ vs = [.int i] ∧ H l = some (.lst xs) ∧ -(2 ^ 63) ≤ i ∧ i < 2 ^ 63 ∧ seqIndex? i xs.length = some k ∧ xs[k]? = some y ∧ Q y (upd H l (.lst (xs.eraseIdx k)))
def rReverse : V → List V → Hp → VK → Prop := fun x vs H Q => ∃ l xs, x = .ref l ∧ vs = [] ∧ H l = some (.lst xs) ∧ Q .non (upd H l (.lst xs.reverse))
def rClear : V → List V → Hp → VK → Prop := fun x vs H Q => ∃ l xs, x = .ref l ∧ vs = [] ∧ H l = some (.lst xs) ∧ Q .non (upd H l (.lst []))
def rCat : R2 := fun x y H Q => ∃ l b xs zs, x = .ref l ∧ y = .ref b ∧ H l = some (.lst xs) ∧ H b = some (.lst zs) ∧ xs.length + zs.length ≤ sizeLine ∧ ∀ p, H p = none → Q (.ref p) (upd H p (.lst (xs ++ zs)))
theorem op_cat : OpR X (binaryOp .Add) rCat := by
  intro pins s σ H x y v u Q I rx ry h
  obtain ⟨l, b, xs, zs, rfl, rfl, hH, hB, hz, q⟩ := h
  cases rx
  cases ry
  obtain ⟨z, its, n, r, hl, e⟩ := I.lstM hH
  obtain ⟨z2, its2, n2, r2, hl2, e2⟩ := I.lstM hB
  refine PySem.P.add_list e e2 ?_ (by rw [List.size_toArray, List.size_toArray]; omega)
  have ea : its.toArray ++ its2.toArray = (its ++ its2).toArray := by simp
  rw [ea]
  exact ⟨.ref _, _, I.lnew (t' := s.toks) (r.append r2) (by rw [List.length_append]; omega), rfl, q _ I.fresh⟩
def rRep : R2 := fun x y H Q => ∃ l k xs, x = .ref l ∧ y = .int k ∧ H l = some (.lst xs) ∧ -(2 ^ 63) ≤ k ∧ k < 2 ^ 63 ∧ xs.length * k.toNat ≤ sizeLine ∧
  ∀ p, H p = none → Q (.ref p) (upd H p (.lst (List.replicate k.toNat xs).flatten))
theorem len_rep {α : Type} (xs : List α) (k : Nat) : (List.replicate k xs).flatten.length = k * xs.length := by
  induction k with
  | zero => simp
  | succ k ih => rw [List.replicate_succ, List.flatten_cons, List.length_append, ih, Nat.succ_mul, Nat.add_comm]
theorem op_rep : OpR X (binaryOp .Mult) rRep := by
  intro pins s σ H x y v u Q I rx ry h
  obtain ⟨l, k, xs, rfl, rfl, hH, h1, h2, hz, q⟩ := h
  cases rx
  obtain ⟨t, rfl⟩ := ry
  obtain ⟨z, its, n, r, hl, e⟩ := I.lstM hH
  have hlen : its.toArray.size * k.toNat ≤ sizeLine := by rw [List.size_toArray, ← hl]; exact hz
  have hcap : ¬ its.toArray.size * k.toNat > (2 ^ 63 - 1) / 8 := by
    have : (sizeLine : Nat) ≤ (2 ^ 63 - 1) / 8 := by decide
    omega
  have hfit : ¬ (!Builtin.List.listFitsIndex k) = true := by
    rw [fitsIndex_both h1 h2]
    exact Bool.false_ne_true
  have hlong : ¬ Builtin.List.listTooLong (its.toArray.size * k.toNat) = true := by
    rw [notLongL hlen]
    exact Bool.false_ne_true
  have hnew : List.foldl (fun x1 x2 => x1 ++ x2) #[] (List.replicate (if its.toArray.isEmpty = true then 0 else k.toNat) its.toArray) = (List.replicate k.toNat its).flatten.toArray := by
    have f0 : ∀ m : Nat, List.foldl (fun x1 x2 => x1 ++ x2) #[] (List.replicate m its.toArray) = (List.replicate m its).flatten.toArray := fun m => by
      have := foldl_rep its m []
      rw [List.nil_append] at this
      exact this
    rw [f0]
    cases its with
    | nil => simp
    | cons a r' => rw [if_neg (by simp)]
  refine wpAny_binaryOp_repeat_ref (T := "list") (U := "int") (by decide) ⟨_, e, rfl⟩ (fun s' => typeIs_int s' k t) noFill_list_mul F.fills_int_mul F.slot_int_rmul repeat_list F.slot_int_index.lookup
    (call_meets F.slot_int_rmul (typeIs_int s k t) F.entry_int_rmul (F.args_int_rmul_2 _ _) (int___rmul___int_list k t l its.toArray n)
      ⟨e, rfl, ⟨_, e, rfl⟩, call_meets F.slot_list_mul ⟨_, e, rfl⟩ F.entry_list_mul (F.args_list_mul_2 _ _) (AutoListH.list___mul___list_int_3 l its.toArray n k t hfit hcap hlong) ⟨e, ?_⟩⟩)
  rw [hnew]
  exact ⟨.ref _, _, I.lnew (t' := s.toks) (r.rep k.toNat) (by rw [len_rep, Nat.mul_comm]; exact hz), rfl, q _ I.fresh⟩

end

section
variable {prog : Program} {w : World} {A : Around} {E : Value → Shared → Prop} {s : Shared}
end

section
variable {X : Cx}
end
end L2

namespace Att
open PySem PySem.W PySem.Calls PyProof.Rows

theorem ints_of_wellAll {P : Params} {h : Heap} : ∀ (ns : List Int) (vs : List Value), WellAll P h vs (ns.map WData.int) → IntsAre vs ns := by
  intro ns
  induction ns with
  | nil =>
    intro vs w
    rw [List.map_nil] at w
    cases w
    exact .nil
  | cons n ns ih =>
    intro vs w
    rw [List.map_cons] at w
    cases w with
    | cons a b =>
      cases a
      exact .cons _ _ (ih _ b)

theorem script_of {l : OpenLaw} {n : Nat} (hn : l.most = some n) {P : Params} {h : Heap} {args : List WData} {vals : List Value}
    (hpre : l.row.toRowW.claim.pre args = true) (hwl : WellAll P h vals args) :
    ∃ a vs ns, vals = [Value.ref a] ∧ args = [WData.list (ns.map WData.int)] ∧ h.get? a = some { cls := .type "list", data := .seq vs.toArray } ∧ IntsAre vs ns ∧ ns.length ≤ n := by
  have hsh : WShape.hasAll [] args [.list .int] = true := (pre_splitW hpre).1
  have hc : l.pre.holds [] { args := args } = true := (pre_splitW hpre).2
  obtain ⟨d, r, rfl, h1, h2⟩ := hasAllW_cons hsh
  obtain rfl := hasAllW_nil h2
  obtain ⟨xs, rfl, h3⟩ := hasW_list h1
  obtain ⟨ns, rfl⟩ := items_int h3
  have hlen : ns.length ≤ n := by
    unfold OpenLaw.pre at hc
    have h4 : (WTm.not (.lt (.lit (.int (n : Int))) (.len (.arg 0)))).holds [] { args := [.list (ns.map .int)] } = true := by
      have h4 := (holds_andW hc).1
      rw [hn] at h4
      exact h4
    have h5 := condW_of h4 (w_not (w_lt w_lit (w_len_list (w_arg rfl))))
    rw [List.length_map] at h5
    refine Nat.le_of_not_lt fun q => ?_
    have q' : (n : Int) < ((ns.length : Nat) : Int) := by omega
    first
      | (rw [decide_eq_true q'] at h5; exact absurd h5 (by decide))
      | (simp at h5; omega)
  cases hwl with
  | cons w1 w2 =>
    cases w2
    cases w1 with
    | list ho hall => exact ⟨_, _, ns, rfl, rfl, ho, ints_of_wellAll ns _ hall, hlen⟩

theorem post_true (l : OpenLaw) (args : List WData) : l.row.toRowW.claim.post args (.bool true) args = true :=
  postW_of (r := l.row.toRowW) (X := (true == true))
    (show WShape.has [] (.bool true) .bool = true by first | rfl | decide | simp [WShape.has, WShape.arms, WShape.armsAll])
    (show (WTm.eq .res (.lit (.bool true))).value [] { args := args, res := some (.bool true), after := args } = some (.bool (true == true)) from w_eq_bool (w_res rfl) w_lit) rfl

section
variable {prog : Program} {w : World} {A : Around} {E : Value → Shared → Prop} {s : Shared} {K : Frag}

def noObjs (h : Heap) : Heap := { h with objs := #[] }
def ledger (h : Heap) (L d : Addr) : List (Addr × Obj) := (List.range h.objs.size).filterMap fun a => if a = L ∨ a = d then none else (h.get? a).map fun o => (a, o)
end
end Att

namespace L2
open PySem PySem.Spec PyProof.Rows

theorem vals_ints : ∀ {vs : List Value} {ns : List Int}, IntsAre vs ns → Vals (ns.map V.int) vs
  | _, _, .nil => .nil
  | _, _, .cons n t h => .cons ⟨t, rfl⟩ (vals_ints h)

def Only (H : Hp) : Prop := ∀ b, H b = none ∨ ∃ o xs, H b = some (.frz o (.lst xs))

theorem law_call {P : Program} {w : World} {K : PySem.W.Frag} {mg mb : Str → Option Value} {CX : CXT} {k : Nat} {fa a : Addr} {fd : FuncData} {x : Str} {sp : Sp} {s₁ : Shared} {vs : List Value} {ns : List Int}
    (KX : K.In s₁.heap) (hns : s₁.heap.Ns mainGlobals mg) (hb : s₁.heap.Ns builtinsNs mb) (hbb : ∀ x : Str, x ≠ "__name__" → mb x = bootBuiltins x) (hlim : s₁.heap.NoLimit) (hg : s₁.gens = #[])
    (ha : s₁.heap.get? a = some { cls := .type "list", data := .seq vs.toArray }) (hi : IntsAre vs ns) (hl : ns.length ≤ sizeLine) (hr : Room k callerA)
    (F : ∀ base : Heap, K.In base → base.Ns mainGlobals mg → FnOk P w K mg base CX k fa fd [x] sp) (hbind : ∀ (s : Shared) (u : Value), BindsTo s fd ⟨[u], []⟩ [(x, u)])
    (hsp : ∀ H : Hp, Only H → SqL K H a (ns.map V.int) → sp [.ref a] H (fun v _ => v = .bl true) fun _ _ _ => False)
    (hCX : ∀ H e s', CX [] H s₁ (fun _ _ _ => False) e s' → False) :
    codeAny (model P w) callerA (.call (.ref fa) ⟨[.ref a], []⟩) (fun r s' => r = .ok (.ret (.bool true)) ∧ OldK s₁.heap s'.heap ∧ s'.os = s₁.os ∧ AllBare s'.gens) s₁ := by
  have rv := vals_ints hi
  have lenV := hi.length
  -- from an abstract heap in which nothing but the script may be tracked
  have core : ∀ H : Hp, Only H → SqL K H a (ns.map V.int) → HOk P w H s₁.heap → (∀ b, H b ≠ none → b = a) → (H a ≠ none → K.lookup a = none) →
      codeAny (model P w) callerA (.call (.ref fa) ⟨[.ref a], []⟩) (fun r s' => r = .ok (.ret (.bool true)) ∧ OldK s₁.heap s'.heap ∧ s'.os = s₁.os ∧ AllBare s'.gens) s₁ := by
    intro H hO hS hok hA hK
    have base_of : ∀ {b : Addr} {o : Obj}, s₁.heap.get? b = some o → H b = none → (hidT s₁.heap H).get? b = some o := fun e n => hidT_get e n
    have noA : ∀ {b : Addr} {o : Obj} {es : Array DictEntry} {ep : Nat}, s₁.heap.get? b = some o → o.data = .dict es ep → H b = none := fun {b o es ep} e d => by
      cases q : H b with
      | none => rfl
      | some u =>
        have e' : b = a := hA b (by rw [q]; simp)
        subst e'
        rw [ha] at e; cases e
        have d' : Data.seq vs.toArray _ = Data.dict es ep := d
        cases d'
    have nsK : ∀ {b : Addr} {m : Str → Option Value}, s₁.heap.Ns b m → (hidT s₁.heap H).Ns b m := fun {b m} ⟨o, es, ep, e, d, r⟩ => ⟨o, es, ep, base_of e (noA e d), d, r⟩
    have hKb : K.In (hidT s₁.heap H) := fun b o e => base_of (KX b o e) (by
      cases q : H b with
      | none => rfl
      | some u =>
        have e' : b = a := hA b (by rw [q]; simp)
        subst e'
        rw [hK (by rw [q]; simp)] at e; cases e)
    have hM : Mod K mg (hidT s₁.heap H) := ⟨hKb, nsK hns, ⟨mb, nsK hb, hbb⟩, let ⟨mc, h1, h2⟩ := hlim; ⟨mc, nsK h1, h2⟩⟩
    have e0 : Env0 P w K mg (hidT s₁.heap H) callerA [] s₁ H := ⟨rfl, hM, fun b o e => of_hidT e, Nat.le_of_eq (hidT_size _ _), trivial, fun b hb => absurd (show b ∈ ([] : List Addr) from hb) (by simp), hok, .of_eq hg⟩
    refine codeAny_mono ((F _ hKb (nsK hns)).run callerA [] s₁ H ⟨[.ref a], []⟩ [.ref a] [.ref a] _ _ hr e0 (hbind s₁ (.ref a)) (.cons rfl .nil) (hsp H hO hS)) fun r s' h => ?_
    cases r with
    | error e => exact (hCX H e s' h).elim
    | ok fl =>
      cases fl with
      | next => exact False.elim h
      | brk => exact False.elim h
      | cont => exact False.elim h
      | ret u =>
        obtain ⟨v, H', os, bare, un, hok', r', q⟩ := h
        have q' : v = .bl true := q
        subst q'
        obtain rfl : u = Value.bool true := r'
        refine ⟨rfl, OldK.of_keep fun b o e => ?_, os, bare⟩
        cases q : H b with
        | none => exact un.keep b o e q (by intro z; exact absurd (show b ∈ ([] : List Addr) from z) (by simp)) (by simp)
        | some u =>
          rcases hO b with z | ⟨ob, xs, z⟩
          · rw [q] at z; cases z
          · have z2 := un.frzs b ob _ z
            obtain ⟨e1, _⟩ := hok b _ z
            obtain ⟨e2, _⟩ := hok' b _ z2
            rw [e] at e1; cases e1
            exact e2
  cases hk : K.lookup a with
  | some o =>
    -- the script is one of the module's own objects
    have e := KX a o hk
    rw [ha] at e
    cases e
    refine core (fun _ => none) (fun _ => .inl rfl) (.inr ⟨_, vs.toArray, _, hk, rfl, rfl, rfl, by rw [List.size_toArray, lenV]; exact hl, by simpa using rv⟩) (fun b u z => by have z' : (none : Option HO) = some u := z; cases z') (fun b z => absurd rfl z) fun z => absurd rfl z
  | none =>
    refine core (fun b => if b = a then some (.frz { cls := .type "list", data := .seq vs.toArray } (.lst (ns.map V.int))) else none) (fun b => ?_) (.inl (.inr ⟨{ cls := .type "list", data := .seq vs.toArray }, if_pos rfl⟩)) (fun b u z => ?_) (fun b z => ?_) fun _ => hk
    · by_cases hb : b = a
      · exact .inr ⟨_, _, if_pos hb⟩
      · exact .inl (if_neg hb)
    · by_cases hb : b = a
      · have z' := (if_pos hb).symm.trans z
        cases z'
        subst hb
        exact ⟨ha, by rw [List.length_map]; exact hl, vs, _, rv, ha⟩
      · have z' := (if_neg hb).symm.trans z
        cases z'
    · by_cases hb : b = a
      · exact hb
      · exact absurd (if_neg hb) z
end L2

namespace L2
open PySem PySem.Spec PyProof.Rows

abbrev KOf {K : PySem.W.Frag} {h : Heap} (_ : K.In h) : PySem.W.Frag := K

end L2

/- THE LAST THEOREM (shape; LID, My.* are yours):
   My.Adr: a structure of the addresses that your layer names (classes, functions); My.Txt K t: a structure (Prop) of the equations over K;
   My.txt_mk : {K} {implicit addresses ..} (e1 : nsIn K mainGlobals "law" = some (some (.ref f))) (e2 : K.lookup f = some ⟨oc, od, .func (fnOf "law" "law" params body scope dV kV doc pm an cdv ct), sl⟩) (e3 : codeIn K cdv "law" = true) .. : ∃ t, My.Txt K t

(the tactic k_is has no namespace: write k_is) -/

namespace L2
open PySem PySem.Spec PyProof.Rows

def inClass (s : Stmt) (j : Nat) : Stmt := match s with
  | .ClassDef _ _ _ body _ _ _ _ _ _ _ => body.getD j (.Pass ⟨0, 0, 0, 0⟩)
  | _ => .Pass ⟨0, 0, 0, 0⟩
def defArgs (s : Stmt) : Arguments := match s with
  | .FunctionDef _ a _ _ _ _ _ _ _ _ => a
  | _ => { posonlyargs := [], args := [], vararg := none, kwonlyargs := [], kw_defaults := [], kwarg := none, defaults := [] }
def defBody (s : Stmt) : List Stmt := match s with
  | .FunctionDef _ _ b _ _ _ _ _ _ _ => b
  | _ => []
def defScope (s : Stmt) : Scope := match s with
  | .FunctionDef _ _ _ _ _ _ sc _ _ _ => sc
  | _ => { kind := .function, names := [], isGenerator := false, isCoroutine := false }

abbrev CX0 : CXT := fun _ _ _ _ _ _ => False
abbrev E0 : XK := fun _ _ _ => False
theorem pass0 {X : Cx} : Passes CX0 X E0 := fun _ _ _ _ _ _ _ h => h.elim

structure Fun (K : PySem.W.Frag) (x qual : Str) (st : Stmt) (f : Addr) (fd : FuncData) : Prop where
  ex : ∃ (oc : Value) (od : Option Addr) (kV doc pm : Value) (an : Option Addr) (cdv ct : Value) (osl : Array (Option Value)),
    fd = PySem.W.fnOf x qual (defArgs st) (defBody st) (defScope st) .none kV doc pm an cdv ct ∧ K.lookup f = some ⟨oc, od, .func fd, osl⟩ ∧ PySem.W.codeIn K cdv qual = true
  kp : PySem.W.keepIn K (.ref f) = true
section
variable {P : Program} {w : World} {K : PySem.W.Frag} {mg : Str → Option Value} {base : Heap}
theorem Fun.ok {x qual : Str} {st : Stmt} {f : Addr} {fd : FuncData} {N ps : List Str} {k : Nat} {sp : Sp} (F : Fun K x qual st f fd) (S : FnScope N ps (defScope st)) (len : ∀ vs H Q E, sp vs H Q E → vs.length = ps.length)
    (hbody : ∀ (cdv : Value) (A : Around) (outer : List Env) (s : Shared) (H : Hp) (vs : List V) (Q : VK) (E : XK), Room k (A.deeper (envOfC qual (defScope st) s.heap.objs.size f cdv)) → sp vs H Q E →
      ∃ t, PSs (cxOf CX0 P w K mg base N qual (defScope st) f cdv A outer s H E).nox (defBody st) t ∧ t { nx := fun _ H' => Q .non H', rt := Q } (start N vs) H) : FnOk P w K mg base CX0 (k + 1) f fd ps sp := by
  obtain ⟨oc, od, kV, doc, pm, an, cdv, ct, osl, rfl, lk, hcd⟩ := F.ex
  refine fn_of lk hcd S len fun A outer s H vs Q E hr hsp => ?_
  obtain ⟨t, h, q⟩ := hbody cdv A outer s H vs Q E hr hsp
  exact ⟨t, h.nox, q⟩
theorem Fun.binds {x qual : Str} {st : Stmt} {f : Addr} {fd : FuncData} {ps : List Str} (F : Fun K x qual st f fd)
    (h : ∀ (kV doc pm : Value) (an : Option Addr) (cdv ct : Value) (us : List Value), us.length = ps.length → bindArgs (PySem.W.fnOf x qual (defArgs st) (defBody st) (defScope st) .none kV doc pm an cdv ct) ⟨us, []⟩ = pure (ps.zip us)) : Binds K fd ps [] := by
  obtain ⟨oc, od, kV, doc, pm, an, cdv, ct, osl, rfl, lk, hcd⟩ := F.ex
  exact .all (h kV doc pm an cdv ct)
theorem fun_mk {x qual : Str} {st : Stmt} {f : Addr} {oc : Value} {od an : Option Addr} {osl : Array (Option Value)} {kV doc pm cdv ct : Value} (l : K.lookup f = some ⟨oc, od, .func (PySem.W.fnOf x qual (defArgs st) (defBody st) (defScope st) .none kV doc pm an cdv ct), osl⟩)
    (c : PySem.W.codeIn K cdv qual = true) (k : PySem.W.keepIn K (.ref f) = true) : Fun K x qual st f (PySem.W.fnOf x qual (defArgs st) (defBody st) (defScope st) .none kV doc pm an cdv ct) := ⟨⟨oc, od, kV, doc, pm, an, cdv, ct, osl, rfl, l, c⟩, k⟩
end
section
variable {X : Cx}
end

def Same (H H' : Hp) : Prop := ∀ b o, H b = some o → H' b = some o
theorem Same.refl (H : Hp) : Same H H := fun _ _ h => h
theorem Same.trans {H H1 H2 : Hp} (a : Same H H1) (b : Same H1 H2) : Same H H2 := fun c o h => b c o (a c o h)
theorem Same.free {H H' : Hp} (e : Same H H') {l : Addr} (h : H' l = Option.none) : H l = Option.none := by
  cases q : H l with
  | none => rfl
  | some o =>
    rw [e l o q] at h
    cases h
theorem Same.seq {K : PySem.W.Frag} {H H' : Hp} {a : Addr} {xs : List V} (e : Same H H') (h : SqL K H a xs) : SqL K H' a xs := by
  rcases h with (h | ⟨o, h⟩) | h
  · exact .inl (.inl (e _ _ h))
  · exact .inl (.inr ⟨o, e _ _ h⟩)
  · exact .inr h

end L2

namespace L2
open PySem PySem.Spec PyProof.Rows
section
variable {κ : Type} [DecidableEq κ]
def valV (kvs : List (κ × V)) (k : κ) : Option V := (kvs.find? fun kv => decide (kv.1 = k)).map (·.2)
def putK (kvs : List (κ × V)) (k : κ) (v : V) : List (κ × V) :=
  if (kvs.any fun kv => decide (kv.1 = k)) = true then kvs.map (fun kv => if kv.1 = k then (kv.1, v) else kv) else kvs ++ [(k, v)]
def dropK (kvs : List (κ × V)) (k : κ) : List (κ × V) := kvs.filter fun kv => decide (kv.1 ≠ k)

theorem RelO.getD {o : Option V} {u : Option Value} {d : V} {d' : Value} (r : RelO o u) (rd : RelV d d') : RelV (o.getD d) (u.getD d') := by
  cases o with
  | none => cases u with
    | none => exact rd
    | some _ => exact (show False from r).elim
  | some _ => cases u with
    | none => exact (show False from r).elim
    | some _ => exact r

theorem KV.any {kvs : List (κ × V)} {vs : List (κ × Value)} (r : KV kvs vs) (k : κ) : (kvs.any fun kv => decide (kv.1 = k)) = vs.any fun kv => decide (kv.1 = k) := by
  unfold KV at r
  induction r with
  | nil => rfl
  | cons h t ih => rw [List.any_cons, List.any_cons, ih, h.1]
theorem KV.drop {kvs : List (κ × V)} {vs : List (κ × Value)} (r : KV kvs vs) (k : κ) : KV (dropK kvs k) (without vs k) := by
  unfold KV at r ⊢
  unfold dropK without
  induction r with
  | nil => exact .nil
  | @cons p q ps qs h t ih =>
    obtain ⟨h1, h2⟩ := h
    rw [List.filter_cons, List.filter_cons]
    by_cases e : p.1 = k
    · have a : ¬ decide (p.1 ≠ k) = true := by simp [e]
      have b : ¬ decide (q.1 ≠ k) = true := by simp [h1.symm.trans e]
      rw [if_neg a, if_neg b]; exact ih
    · have e' : ¬ q.1 = k := fun z => e (h1.trans z)
      have a : decide (p.1 ≠ k) = true := by simp [e]
      have b : decide (q.1 ≠ k) = true := by simp [e']
      rw [if_pos a, if_pos b]; exact .cons ⟨h1, h2⟩ ih
theorem KV.keys {kvs : List (κ × V)} {vs : List (κ × Value)} (r : KV kvs vs) : kvs.map (·.1) = vs.map (·.1) := by
  unfold KV at r
  induction r with
  | nil => rfl
  | cons h t ih => rw [List.map_cons, List.map_cons, ih, h.1]
theorem KV.length {kvs : List (κ × V)} {vs : List (κ × Value)} (r : KV kvs vs) : kvs.length = vs.length := Paired.length r
end


abbrev KT (H : Hp) : List (List Key × V) → List (List Key × Addr × Value) → Prop := Paired fun p q => p.1 = q.1 ∧ H q.2.1 = some (.tup (p.1.map kV)) ∧ RelV p.2 q.2.2
theorem KT.keeps {H H' : Hp} {kvs : List (List Key × V)} {xs : List (List Key × Addr × Value)} (r : KT H kvs xs) (ht : ∀ b ys, H b = some (.tup ys) → H' b = some (.tup ys)) : KT H' kvs xs :=
  Paired.mapP r fun _ _ z => ⟨z.1, ht _ _ z.2.1, z.2.2⟩

section
variable {P : Program} {w : World} {H : Hp} {h : Heap} {a : Addr}
end

def DGet (H : Hp) (a : Addr) (y : V) (r : Option V) : Prop :=
  (∃ kvs k, Rd H a (.dK kvs) ∧ y = kV k ∧ r = valV kvs k) ∨ ∃ kvs k b, Rd H a (.dT kvs) ∧ y = .ref b ∧ H b = some (.tup (k.map kV)) ∧ r = valV kvs k
def DPut (H : Hp) (a : Addr) (y v : V) (H' : Hp) : Prop :=
  (∃ kvs k, H a = some (.dK kvs) ∧ y = kV k ∧ kvs.length < sizeLine ∧ H' = upd H a (.dK (putK kvs k v))) ∨
  ∃ kvs k b, H a = some (.dT kvs) ∧ y = .ref b ∧ H b = some (.tup (k.map kV)) ∧ kvs.length < sizeLine ∧ H' = upd H a (.dT (putK kvs k v))
theorem DGet.k {H : Hp} {a : Addr} {kvs : List (Key × V)} {k : Key} (e : H a = some (.dK kvs)) : DGet H a (kV k) (valV kvs k) := .inl ⟨kvs, k, .inl e, rfl, rfl⟩
theorem DGet.t {H : Hp} {a b : Addr} {kvs : List (List Key × V)} {k : List Key} (e : H a = some (.dT kvs)) (eb : H b = some (.tup (k.map kV))) : DGet H a (.ref b) (valV kvs k) := .inr ⟨kvs, k, b, .inl e, rfl, eb, rfl⟩
theorem DPut.k {H : Hp} {a : Addr} {kvs : List (Key × V)} {k : Key} {v : V} (e : H a = some (.dK kvs)) (hl : kvs.length < sizeLine) : DPut H a (kV k) v (upd H a (.dK (putK kvs k v))) := .inl ⟨kvs, k, e, rfl, hl, rfl⟩
theorem DPut.t {H : Hp} {a b : Addr} {kvs : List (List Key × V)} {k : List Key} {v : V} (e : H a = some (.dT kvs)) (eb : H b = some (.tup (k.map kV))) (hl : kvs.length < sizeLine) :
    DPut H a (.ref b) v (upd H a (.dT (putK kvs k v))) := .inr ⟨kvs, k, b, e, rfl, eb, hl, rfl⟩


section
variable {X : Cx} {pins : List (Addr × Obj)} {σ : St} {H : Hp} {s : Shared} {a : Addr} {y v : V} {u r : Value} {o : Option V} {A : Around} {E : Value → Shared → Prop}

end

section
variable {X : Cx} {pins : List (Addr × Obj)} {σ : St} {H : Hp} {s : Shared} {a : Addr} {kvs : List (Key × V)} {k : Key} {u : Value} {A : Around} {E : Value → Shared → Prop}
end


def NoSl (i : Expr) : Prop := ∀ ov iv, subscripted i false ov iv = operate [ov, iv] (getItem ov iv)
def tDGet (td ty : TE) : TE := fun σ H Q => td σ H fun x H1 => ty σ H1 fun y H2 => ∃ a v, x = .ref a ∧ DGet H2 a y (some v) ∧ Q v H2
def tDIn (ty td : TE) : TE := fun σ H Q => ty σ H fun y H1 => td σ H1 fun x H2 => ∃ a o, x = .ref a ∧ DGet H2 a y o ∧ Q (.bl o.isSome) H2
def tDNotIn (ty td : TE) : TE := fun σ H Q => ty σ H fun y H1 => td σ H1 fun x H2 => ∃ a o, x = .ref a ∧ DGet H2 a y o ∧ Q (.bl (!o.isSome)) H2
def sDPut (td ty tv : TE) : TS := fun D σ H => tv σ H fun v H1 => td σ H1 fun x H2 => ty σ H2 fun y H3 => ∃ a H4, x = .ref a ∧ DPut H3 a y v H4 ∧ D.nx σ H4
def sDAug (td ty tv : TE) (rd : V → V → Hp → VK → Prop) : TS := fun D σ H => td σ H fun x H1 => ty σ H1 fun y H2 => ∃ a v, x = .ref a ∧ DGet H2 a y (some v) ∧
  tv σ H2 fun y2 H3 => rd v y2 H3 fun z H4 => ∃ H5, DPut H4 a y z H5 ∧ D.nx σ H5
def sDDel (td ty : TE) : TS := fun D σ H => td σ H fun x H1 => ty σ H1 fun y H2 => ∃ a kvs k, x = .ref a ∧ H2 a = some (.dK kvs) ∧ y = kV k ∧ (valV kvs k).isSome = true ∧ D.nx σ (upd H2 a (.dK (dropK kvs k)))

section
variable {X : Cx} {o i e value : Expr} {pos pos' tpos : Pos} {td ty tv : TE}
end


def tDNewK : TE := fun _ H Q => ∀ p, H p = none → Q (.ref p) (upd H p (.dK []))
def tDNewT : TE := fun _ H Q => ∀ p, H p = none → Q (.ref p) (upd H p (.dT []))
section
variable {X : Cx} {pos : Pos}
end

def tPairs : List (TE × TE) → St → Hp → (List (V × V) → Hp → Prop) → Prop
  | [], _, H, Q => Q [] H
  | (tk, tv) :: r, σ, H, Q => tk σ H fun x H1 => tv σ H1 fun y H2 => tPairs r σ H2 fun ps H3 => Q ((x, y) :: ps) H3
abbrev VV : List (V × V) → List (Value × Value) → Prop := Paired fun p q => RelV p.1 q.1 ∧ RelV p.2 q.2
def PPs (X : Cx) (pos : Pos) (keys : List (Option Expr)) (values : List Expr) (trs : List (TE × TE)) : Prop :=
  ∀ (pins : List (Addr × Obj)) (s : Shared) (σ : St) (H : Hp) (Q : List (V × V) → Hp → Prop), Inv X pins σ H s → tPairs trs σ H Q →
    wpAny (model X.prog X.w) X.A (evalPairs (pairTrees keys values X.env pos)) (fun vs s' => ∃ ps H', Inv X pins σ H' s' ∧ VV ps vs ∧ Q ps H') X.xe s
def mergeK (kvs more : List (Key × V)) : List (Key × V) := more.foldl (fun acc kv => putK acc kv.1 kv.2) kvs
def tDisp (trs : List (TE × TE)) : TE := fun σ H Q => ∀ p, H p = none → tPairs trs σ (upd H p (.dK [])) fun ps H2 => H2 p = some (.dK []) ∧ ∃ kvs : List (Key × V), ps = kvs.map (fun kv => (kV kv.1, kv.2)) ∧ kvs.length ≤ 15 ∧ Q (.ref p) (upd H2 p (.dK (mergeK [] kvs)))
structure M1 (X : Cx) (o : Expr) (m : Str) (apos : Pos) (e : Expr) (cpos : Pos) : Prop where
  base : attributeBase o m X.env (eval o X.env) = eval o X.env
  few : ((backTo cpos (starEach [e] X.env)).all (fun x => !x.1) && (backToKw cpos (keywordEach [] X.env)).all (fun x => x.1.isSome)
    && decide (([e] : List Expr).length + ([] : List Keyword).length + (if ([] : List Keyword).isEmpty then 0 else 1) < 30)) = true
  line : (apos.endLine == cpos.line) = true
  trees : backTo cpos (starEach [e] X.env) = [(false, eval e X.env)]
structure M2 (X : Cx) (o : Expr) (m : Str) (apos : Pos) (e f : Expr) (cpos : Pos) : Prop where
  base : attributeBase o m X.env (eval o X.env) = eval o X.env
  few : ((backTo cpos (starEach [e, f] X.env)).all (fun x => !x.1) && (backToKw cpos (keywordEach [] X.env)).all (fun x => x.1.isSome)
    && decide (([e, f] : List Expr).length + ([] : List Keyword).length + (if ([] : List Keyword).isEmpty then 0 else 1) < 30)) = true
  line : (apos.endLine == cpos.line) = true
  trees : backTo cpos (starEach [e, f] X.env) = [(false, eval e X.env), (false, eval f X.env)]

def IsD (H : Hp) (a : Addr) : Prop := (∃ kvs, Rd H a (.dK kvs)) ∨ ∃ kvs, Rd H a (.dT kvs)
section
variable {X : Cx} {pins : List (Addr × Obj)} {σ : St} {H : Hp} {s : Shared} {a : Addr} {y d : V} {u r : Value} {o : Option V} {A : Around} {E : Value → Shared → Prop}
end

def tDGet1 (td ty : TE) : TE := fun σ H Q => td σ H fun x H1 => ∃ a, x = .ref a ∧ IsD H1 a ∧ ty σ H1 fun y H2 => ∃ o, DGet H2 a y o ∧ Q (o.getD .non) H2
def tDGet2 (td ty tx : TE) : TE := fun σ H Q => td σ H fun x H1 => ∃ a, x = .ref a ∧ IsD H1 a ∧ ty σ H1 fun y H2 => tx σ H2 fun z H3 => ∃ o, DGet H3 a y o ∧ Q (o.getD z) H3
def tDPop1 (td ty : TE) : TE := fun σ H Q => td σ H fun x H1 => ∃ a, x = .ref a ∧ IsD H1 a ∧ ty σ H1 fun y H2 => ∃ kvs k v, H2 a = some (.dK kvs) ∧ y = kV k ∧ valV kvs k = some v ∧ Q v (upd H2 a (.dK (dropK kvs k)))
def tDPop2 (td ty tx : TE) : TE := fun σ H Q => td σ H fun x H1 => ∃ a, x = .ref a ∧ IsD H1 a ∧ ty σ H1 fun y H2 => tx σ H2 fun z H3 => ∃ kvs k, H3 a = some (.dK kvs) ∧ y = kV k ∧
  (∀ v, valV kvs k = some v → Q v (upd H3 a (.dK (dropK kvs k)))) ∧ (valV kvs k = none → Q z H3)
section
variable {X : Cx} {o e f : Expr} {apos cpos : Pos} {td ty tx : TE}
end

section
variable {X : Cx} {pins : List (Addr × Obj)} {σ : St} {H : Hp} {s : Shared} {a : Addr} {kvs : List (Key × V)} {A : Around} {E : Value → Shared → Prop}
end


section
variable {X : Cx} {pins : List (Addr × Obj)} {σ : St} {H : Hp} {s : Shared} {a : Addr} {y : V} {u : Value} {A : Around} {E : Value → Shared → Prop}
end
section
variable {X : Cx}
end
section
variable {κ : Type} [DecidableEq κ]
end
end L2

namespace L2
open PySem PySem.Spec PyProof.Rows
open PySem.Builtin.Int (intBits)

section
variable {X : Cx} {a b c : Expr} {ta tb tc : TE} {pos : Pos}
theorem op_mulB : OpR X (binaryOp .Mult) (rI IntMulOk fun i j => .int (i * j)) := opI fun _ _ _ _ _ _ _ hc q => mul_int q hc
def CFd (i j : Int) : Prop := j ≠ 0 ∧ intBits j ≤ 9000
theorem log_of_bits {j : Int} (h : j ≠ 0) (hb : intBits j ≤ 9000) : j.natAbs.log2 < 9000 := by
  have h1 := intBits_le_iff.mp hb
  exact (Nat.log2_lt (by omega)).mpr h1
theorem op_fdivF : OpR X (binaryOp .FloorDiv) (rI CFd fun i j => .int (i.fdiv j)) := opI fun i j _ _ _ _ _ hc q =>
  floordiv_int hc.1 q (.inl (PyProof.noPylong_of_log2 (log_of_bits hc.1 hc.2)))
def CDv (i j : Int) : Prop := 0 < j ∧ intBits j ≤ 9000
inductive Ty where
  | non | bl | int | str | lst | tup | dct
  deriving DecidableEq
def Ty.nm : Ty → String
  | .non => "NoneType" | .bl => "bool" | .int => "int" | .str => "str" | .lst => "list" | .tup => "tuple" | .dct => "dict"
def tyNm (H : Hp) : V → Option Ty
  | .non => some .non
  | .bl _ => some .bl
  | .int _ => some .int
  | .str _ => some .str
  | .ref a => match H a with
    | some (.lst _) => some .lst
    | some (.frz _ (.lst _)) => some .lst
    | some (.tup _) => some .tup
    | some (.dK _) => some .dct
    | some (.dT _) => some .dct
    | _ => none
  | _ => none
def isSubT (t T : Ty) : Bool := decide (t = T) || (decide (t = .bl) && decide (T = .int))
theorem tyNm_of {K : PySem.W.Frag} {H : Hp} {x : V} {t : Ty} (h : tyNm H x = some t) : TyOf K H x (.type t.nm) := by
  cases x with
  | non => cases h; exact .non
  | bl b => cases h; exact .bl b
  | int i => cases h; exact .int i
  | str s => cases h; exact .str s
  | byt b => cases h
  | flt b => cases h
  | ty n => cases h
  | ref a =>
    unfold tyNm at h
    cases e : H a with
    | none => simp [e] at h
    | some o =>
      cases o with
      | lst xs => simp [e] at h; subst h; exact .lst e
      | tup xs => simp [e] at h; subst h; exact .tup e
      | dK kvs => simp [e] at h; subst h; exact .dK e
      | dT kvs => simp [e] at h; subst h; exact .dT e
      | frz ob u =>
        cases u with
        | lst xs => simp [e] at h; subst h; exact .frz e
        | _ => simp [e] at h
      | _ => simp [e] at h
theorem kit_of {K : PySem.W.Frag} (t T : Ty) : PySem.W.kitOne K (.type t.nm) (.type T.nm) = some (isSubT t T) := by
  cases t <;> cases T <;> rfl
def rIsT (T : Ty) : List V → Hp → VK → Prop := fun xs H Q => match xs with
  | [x, .ty n] => n = T.nm ∧ ∃ t, tyNm H x = some t ∧ Q (.bl (isSubT t T)) H
  | _ => False
theorem call_isT (T : Ty) : CallR X (.builtin "isinstance") (rIsT T) := by
  intro pins s σ H xs us Q I r h
  match xs, r, h with
  | [x, .ty n], r, h =>
    obtain ⟨rfl, t, ht, q⟩ := h
    obtain ⟨u, v, rfl, r1, r2⟩ := vals2 r
    cases (show v = Value.type T.nm from r2)
    exact isinst_ok I r1 (tyNm_of ht) (kit_of t T) fun tk => ⟨.bl _, H, I.tok tk, rfl, q⟩

mutual
inductive Deep (K : PySem.W.Frag) (H : Hp) : V → PyData → Prop
  | non : Deep K H .non .none
  | bl (b : Bool) : Deep K H (.bl b) (.bool b)
  | int (i : Int) : Deep K H (.int i) (.int i)
  | str (x : Str) : Deep K H (.str x) (.str x)
  | lst {a : Addr} {xs : List V} {ds : List PyData} : SqL K H a xs → DeepAll K H xs ds → Deep K H (.ref a) (.list ds)
  | tup {a : Addr} {xs : List V} {ds : List PyData} : SqT K H a xs → DeepAll K H xs ds → Deep K H (.ref a) (.tuple ds)
inductive DeepAll (K : PySem.W.Frag) (H : Hp) : List V → List PyData → Prop
  | nil : DeepAll K H [] []
  | cons {x : V} {xs : List V} {d : PyData} {ds : List PyData} : Deep K H x d → DeepAll K H xs ds → DeepAll K H (x :: xs) (d :: ds)
end
section
variable {pins : List (Addr × Obj)} {σ : St} {H : Hp} {s : Shared}
mutual
theorem Inv.reads (I : Inv X pins σ H s) : ∀ {v : V} {d : PyData} {u : Value}, Deep X.K H v d → RelV v u → ∃ as, Reads s.heap u d as
  | _, _, _, .non, r => by cases (show _ = Value.none from r); exact ⟨_, .none⟩
  | _, _, _, .bl b, r => by cases (show _ = Value.bool b from r); exact ⟨_, .bool b⟩
  | _, _, _, .int i, r => by obtain ⟨t, rfl⟩ := r; exact ⟨_, .int i t⟩
  | _, _, _, .str x, r => by obtain ⟨t, rfl⟩ := r; exact ⟨_, .str x t⟩
  | _, _, _, .lst (a := a) hs ha, r => by
    cases (show _ = Value.ref a from r)
    obtain ⟨its, rv, ⟨o, n, e, c, _, dd⟩, _⟩ := I.list hs
    obtain ⟨as, q⟩ := Inv.readsAll I ha rv
    exact ⟨_, .list e c dd (by simpa using q)⟩
  | _, _, _, .tup (a := a) hs ha, r => by
    cases (show _ = Value.ref a from r)
    obtain ⟨its, rv, ⟨o, e, c, n, dd⟩, _⟩ := I.tuple hs
    obtain ⟨as, q⟩ := Inv.readsAll I ha rv
    exact ⟨_, .tuple e c dd (by simpa using q)⟩
theorem Inv.readsAll (I : Inv X pins σ H s) : ∀ {vs : List V} {ds : List PyData} {us : List Value}, DeepAll X.K H vs ds → Vals vs us → ∃ as, ReadsAll s.heap us ds as
  | _, _, _, .nil, .nil => ⟨_, .nil⟩
  | _, _, _, .cons h t, .cons r q => by
    obtain ⟨as, x⟩ := Inv.reads I h r
    obtain ⟨bs, y⟩ := Inv.readsAll I t q
    exact ⟨_, .cons x y⟩
end
end
def rEqD (K : PySem.W.Frag) : R2 := fun x y H Q => ∃ d e, Deep K H x d ∧ Deep K H y e ∧ SeqAt.shaped d = true ∧ SeqAt.shaped e = true ∧ Q (.bl (PyData.eqv d e)) H
def rNeD (K : PySem.W.Frag) : R2 := fun x y H Q => ∃ d e, Deep K H x d ∧ Deep K H y e ∧ SeqAt.shaped d = true ∧ SeqAt.shaped e = true ∧ Q (.bl (!PyData.eqv d e)) H
theorem op_eqD (hu : X.A.units + 64 < cLine) : OpR X (compareOp .Eq) (rEqD X.K) := by
  intro pins s σ H x y v u Q I rx ry h
  obtain ⟨d, e, hd, he, sd, se, q⟩ := h
  obtain ⟨as, ra⟩ := I.reads hd rx
  obtain ⟨bs, rb⟩ := I.reads he ry
  exact eq_dataH ra rb sd se hu ⟨.bl _, H, I, rfl, q⟩
theorem op_neD (hu : X.A.units + 64 < cLine) : OpR X (compareOp .NotEq) (rNeD X.K) := by
  intro pins s σ H x y v u Q I rx ry h
  obtain ⟨d, e, hd, he, sd, se, q⟩ := h
  obtain ⟨as, ra⟩ := I.reads hd rx
  obtain ⟨bs, rb⟩ := I.reads he ry
  exact ne_dataH ra rb sd se hu ⟨.bl _, H, I, rfl, q⟩
end

def Itr3 (lo c : Int) (n : Nat) : It := ⟨fun i _ => i < n, fun i H x H' => H' = H ∧ x = .int (lo + i * c), fun i _ => n ≤ i⟩
def rngN (lo hi c : Int) : Nat := (Builtin.Range.rangeSize lo hi c).toNat
theorem rngN_pos {lo hi c : Int} (hc : 0 < c) : rngN lo hi c = if lo < hi then ((hi - lo - 1) / c + 1).toNat else 0 := by
  unfold rngN Builtin.Range.rangeSize
  rw [if_pos (show c > 0 from hc)]
  split <;> rfl
section
variable {X : Cx} {tg : Expr}
def iRng3 (ta : TA) : TI := fun σ H R => ta σ H fun vs H1 => ∃ i j c : Int, vs = [.int i, .int j, .int c] ∧ (0 ≤ i ∧ i < 2 ^ 32 ∧ 0 ≤ j ∧ j < 2 ^ 32 ∧ 0 < c ∧ c < 2 ^ 30) ∧ R (Itr3 i c (rngN i j c)) H1
end
def ForW (J : It) (g : TG) (tb : TS) (D : Ends) (σ : St) (H : Hp) : Prop := ∃ W : Nat → Nat → St → Hp → Prop, (∃ m, W 0 m σ H) ∧ ∀ i m σ H, W i m σ H →
  (J.stop i H ∧ D.nx σ H) ∨ (J.go i H ∧ ∃ N : St → Hp → Prop, (∀ σ' H', N σ' H' → ∃ m', m' < m ∧ W (i + 1) m' σ' H') ∧ ∀ x H', J.yld i H x H' → g x σ H' fun σ2 H2 => tb { D with nx := N, ct := N, bk := D.nx } σ2 H2)
def tForW (wi : TI) (g : TG) (tb : TS) : TS := fun D σ H => wi σ H fun J H1 => ForW J g tb D σ H1
theorem ps_forW {X : Cx} {tg iter : Expr} {body : List Stmt} {wi : TI} {g : TG} {tb : TS} {pos : Pos} (hp : PassesOwn (model X.prog X.w) X.A X.env X.xe) (hc : X.calm = true) (hi : PI X tg iter wi) (hg : PG X tg g) (hb : PSs X body tb)
    (hs : ∀ x, foldedSetIterable iter X.env x = pure x := by intro _; rfl) : PS X (.For tg iter body [] pos) (tForW wi g tb) := ps_for hp hc hi hg hb hs
theorem forW_list {K : PySem.W.Frag} {a : Addr} {xs : List V} {g : TG} {tb : TS} {D : Ends} {σ : St} {H : Hp} (Pv : Nat → St → Hp → Prop) (h0 : Pv 0 σ H) (hl : ∀ i σ H, i ≤ xs.length → Pv i σ H → SqL K H a xs)
    (hs : ∀ i x σ H, xs[i]? = some x → Pv i σ H → g x σ H fun σ2 H2 => tb { D with nx := Pv (i + 1), ct := Pv (i + 1), bk := D.nx } σ2 H2) (hd : ∀ σ H, Pv xs.length σ H → D.nx σ H) : ForW (Itl K a) g tb D σ H := for_list Pv h0 hl hs hd
theorem forW_range {lo : Int} {n : Nat} {g : TG} {tb : TS} {D : Ends} {σ : St} {H : Hp} (Pv : Nat → St → Hp → Prop) (h0 : Pv 0 σ H)
    (hs : ∀ i σ H, i < n → Pv i σ H → g (.int (lo + i)) σ H fun σ2 H2 => tb { D with nx := Pv (i + 1), ct := Pv (i + 1), bk := D.nx } σ2 H2) (hd : ∀ σ H, Pv n σ H → D.nx σ H) : ForW (Itr lo n) g tb D σ H := for_range Pv h0 hs hd
def WhileW (c : TT) (tb : TS) (D : Ends) (σ : St) (H : Hp) : Prop := ∃ W : Nat → St → Hp → Prop, (∃ m, W m σ H) ∧ ∀ m σ H, W m σ H →
  c σ H fun b H1 => if b = true then tb { D with nx := fun σ' H' => ∃ m', m' < m ∧ W m' σ' H', ct := fun σ' H' => ∃ m', m' < m ∧ W m' σ' H', bk := D.nx } σ H1 else D.nx σ H1
def tWhileW (c : TT) (tb : TS) : TS := fun D σ H => WhileW c tb D σ H
theorem ps_whileW {X : Cx} {c : Expr} {body : List Stmt} {tc : TT} {tb : TS} {pos : Pos} (hp : PassesOwn (model X.prog X.w) X.A X.env X.xe) (hc : PT X c tc) (hb : PSs X body tb) : PS X (.While c body [] pos) (tWhileW tc tb) := by
  intro pins s σ H D I h
  obtain ⟨W, ⟨m0, w0⟩, turn⟩ := h
  refine wpAny_While (codeAny_whileLoop (fun n s' => ∃ σ' H', Inv X pins σ' H' s' ∧ W n σ' H') ?_ m0 ⟨σ, H, I, w0⟩)
  rintro n s1 ⟨σ1, H1, I1, w1⟩
  refine wpAny_passesOwn hp (thn (hc pins s1 σ1 H1 _ I1 (turn n σ1 H1 w1)) fun b s2 ⟨H2, I2, q2⟩ => ?_)
  cases b with
  | true =>
    rw [if_pos rfl]
    refine wpAny_passesOwn hp (thn (hb pins s2 σ1 H2 _ I2 q2) fun f s3 q3 => ?_)
    cases f with
    | next =>
      obtain ⟨σ3, H3, I3, m', hm, w3⟩ := q3
      exact ⟨m', hm, σ3, H3, I3, w3⟩
    | cont =>
      obtain ⟨σ3, H3, I3, m', hm, w3⟩ := q3
      exact ⟨m', hm, σ3, H3, I3, w3⟩
    | brk => exact q3
    | ret v => exact q3
  | false =>
    rw [if_neg Bool.false_ne_true]
    exact wpAny_execs_nil ⟨σ1, H2, I2, q2⟩
theorem whileW_by {c : TT} {tb : TS} {D : Ends} {σ : St} {H : Hp} (Pv : Nat → St → Hp → Prop) (m0 : Nat) (h0 : Pv m0 σ H)
    (hs : ∀ m σ H, Pv m σ H → c σ H fun b H1 => if b = true then tb { D with nx := fun σ' H' => ∃ m', m' < m ∧ Pv m' σ' H', ct := fun σ' H' => ∃ m', m' < m ∧ Pv m' σ' H', bk := D.nx } σ H1 else D.nx σ H1) : WhileW c tb D σ H :=
  ⟨Pv, ⟨m0, h0⟩, hs⟩
end L2

namespace Att
open PySem PySem.W PySem.Calls PyProof.Rows
open PySem.Builtin.Int (intBits)
theorem bits_of_lay {ns : List Int} (h : WData.layableAll [WData.list (ns.map WData.int)] = true) : ∀ n ∈ ns, intBits n ≤ 1048576 := by
  intro n hn
  have h1 := layableW_arg h _ (List.mem_singleton.mpr rfl)
  have h2 := layableW_item h1 (WData.int n) (List.mem_map.mpr ⟨n, hn, rfl⟩)
  have h3 := (layableW_iff.mp h2).2.2
  exact h3
theorem attach_callB {l : OpenLaw} {n : Nat} {q : Program} {loose : List Str} {XP : (Str → Option Value) → Heap → Prop} {YP : World → Heap → Prop} {d : DefRec}
    (hn : l.most = some n) (hdf : d.params.defaults = [])
    (call : ∀ (w : World) (s₀ s₁ : Shared) (mg mb : Str → Option Value) (fa : Addr) (o : Obj) (pm cd doc : Value) (a : Addr) (vs : List Value) (ns : List Int),
      Ground q loose [] XP w s₀ mg mb s₁.heap → YP w s₁.heap →
      s₁.heap.get? fa = some o → o.data = .func (docDef d.name d.params d.body d.scope pm cd doc) → s₁.heap.CodeRec cd d.name → mg d.name = some (.ref fa) →
      s₁.heap.get? a = some { cls := .type "list", data := .seq vs.toArray } → IntsAre vs ns → ns.length ≤ n → (∀ x ∈ ns, intBits x ≤ 1048576) → s₁.gens = #[] →
      codeAny (model l.prog w) callerA (.call (.ref fa) ⟨[.ref a], []⟩) (fun r s' => r = .ok (.ret (.bool true)) ∧ OldK s₁.heap s'.heap ∧ s'.os = s₁.os ∧ AllBare s'.gens) s₁) :
    WalkO q loose XP YP l.row.toRowW d [] (fun f vs => PySem.call f vs) := by
  intro w s₀ s₁ mg mb G Y fa o pm cd doc dV kV ho hd hcd hD hmg hg args vals as hpre hlay hrd hwl hlo
  obtain rfl : dV = .none := Dflts.none hD hdf
  obtain rfl : kV = .none := Dflts.noKw hD
  obtain ⟨a, vs, ns, rfl, rfl, hobj, hints, hlen⟩ := script_of hn hpre hwl
  refine enter_call (codeAny_mono (call w s₀ s₁ mg mb fa o pm cd doc a vs ns G Y ho (fd_plain hd) hcd hmg hobj hints hlen (bits_of_lay hlay) hg) fun r s' hq => ?_)
  obtain ⟨rfl, h2, h3, h4⟩ := hq
  exact ⟨.inl ⟨.bool true, .bool true, [], rfl, fun _ => rfl, .bool true, post_true l _, fun _ => ⟨List.Pairwise.nil, fun _ hm => (nomatch hm)⟩⟩, h2, h3, h4⟩
end Att
namespace L2
open PySem PySem.Spec PyProof.Rows
open PySem.Builtin.Int (intBits)
def spLawOf (n : Nat) (K : PySem.W.Frag) : Sp := fun vs H Q _ => ∃ (a : Addr) (ns : List Int), vs = [.ref a] ∧ SqL K H a (ns.map V.int) ∧ ns.length ≤ n ∧ (∀ x ∈ ns, intBits x ≤ 1048576) ∧ Only H ∧ ∀ H', Q (.bl true) H'
theorem walk_ofB {l : PySem.W.OpenLaw} {k : Nat} {q : Program} {loose : List Str} {XP : (Str → Option Value) → Heap → Prop} {YP : World → Heap → Prop} {d : DefRec} {K : Params → PySem.W.Frag} {CX : World → CXT} {x : Str}
    (hn : l.most = some 63) (hdf : d.params.defaults = []) (hr : Room k callerA)
    (hY : ∀ (w : World) (h : Heap), YP w h → (K w.params).In h)
    (F : ∀ (w : World) (mg : Str → Option Value) (fa : Addr) (h : Heap), (K w.params).In h → h.Ns mainGlobals mg → mg d.name = some (.ref fa) →
      ∃ fd : FuncData, (∀ (s : Shared) (u : Value), BindsTo s fd ⟨[u], []⟩ [(x, u)]) ∧
        ∀ base : Heap, (K w.params).In base → base.Ns mainGlobals mg → FnOk l.prog w (K w.params) mg base (CX w) k fa fd [x] (spLawOf 63 (K w.params)))
    (hCX : ∀ (w : World) (H : Hp) (s : Shared) (e : Value) (s' : Shared), CX w [] H s (fun _ _ _ => False) e s' → False) :
    PySem.W.WalkO q loose XP YP l.row.toRowW d [] (fun f vs => PySem.call f vs) := by
  refine Att.attach_callB hn hdf fun w s₀ s₁ mg mb fa o pm cd doc a vs ns G Y ho hd hcd hmg hobj hints hlen hbits hg => ?_
  have KX := hY w _ Y
  obtain ⟨fd, hb, hF⟩ := F w mg fa _ KX G.T.g hmg
  exact law_call KX G.T.g G.T.b G.T.builtins G.T.nolimit hg hobj hints (Nat.le_trans hlen (by decide)) hr hF hb (fun H hO hS => ⟨a, ns, rfl, hS, hlen, hbits, hO, fun _ => rfl⟩) fun H e s' => hCX w H s₁ e s'
end L2
namespace L2
open PySem PySem.Spec PyProof.Rows
theorem Same.upd {H : Hp} {p : Addr} {o : HO} (h : H p = none) : Same H (upd H p o) := fun b u e => by
  rw [upd_ne (ne_of_none e h)]; exact e
structure Tag {α : Type} (a : α) : Type where
def New (H : Hp) (o : HO) (Q : VK) (_ : Tag Q) : Prop := ∀ p H1, H p = none → Same H H1 → H1 p = some o → Q (.ref p) H1
def All (C : V → Hp → Prop) (Q : VK) (_ : Tag C) (_ : Tag Q) : Prop := ∀ v H1, C v H1 → Q v H1
theorem New.raw {H : Hp} {o : HO} {Q : VK} {t : Tag Q} (h : New H o Q t) : ∀ p, H p = none → Q (.ref p) (L2.upd H p o) := fun p e => h p _ e (Same.upd e) upd_same
theorem cxOf_K {CX : CXT} {P : Program} {w : World} {K : PySem.W.Frag} {mg : Str → Option Value} {base : Heap} {N : List Str} {qual : Str} {scope : Scope} {f : Addr} {cd : Value} {A : Around} {outer : List Env} {s : Shared} {H : Hp} {E : XK} : (cxOf CX P w K mg base N qual scope f cd A outer s H E).K = K := rfl
section
variable {X : Cx} {es : List Expr} {t : TA} {pos : Pos}
def tTupS (t : TA) : TE := fun σ H Q => t σ H fun xs H1 => xs.length ≤ sizeLine ∧ New H1 (.tup xs) Q ⟨⟩
def tLstS (t : TA) : TE := fun σ H Q => t σ H fun xs H1 => xs.length ≤ sizeLine ∧ New H1 (.lst xs) Q ⟨⟩
end
section
variable {X : Cx} {a b c : Expr} {ta tb tc : TE} {pos : Pos}
def rAddM : R2 := fun x y H Q => match x, y with
  | .int i, .int j => Q (.int (i + j)) H
  | .str u, .str v => u.length + v.length ≤ sizeLine ∧ Q (.str (u ++ v)) H
  | .ref l, .ref b => ∃ xs zs, H l = some (.lst xs) ∧ H b = some (.lst zs) ∧ xs.length + zs.length ≤ sizeLine ∧ New H (.lst (xs ++ zs)) Q ⟨⟩
  | _, _ => False
theorem op_addM : OpR X (binaryOp .Add) rAddM := by
  intro pins s σ H x y v u Q I rx ry h
  cases x <;> cases y <;> first
    | exact False.elim h
    | exact op_add pins s σ H _ _ v u Q I rx ry ⟨_, _, rfl, rfl, h⟩
    | exact op_add_str pins s σ H _ _ v u Q I rx ry ⟨_, _, rfl, rfl, h.1, h.2⟩
    | (obtain ⟨xs, zs, h1, h2, h3, h4⟩ := h
       exact op_cat pins s σ H _ _ v u Q I rx ry ⟨_, _, _, _, rfl, rfl, h1, h2, h3, h4.raw⟩)
def rMulM : R2 := fun x y H Q => match x, y with
  | .int i, .int j => IntMulOk i j ∧ Q (.int (i * j)) H
  | .ref l, .int k => ∃ xs, H l = some (.lst xs) ∧ -(2 ^ 63) ≤ k ∧ k < 2 ^ 63 ∧ xs.length * k.toNat ≤ sizeLine ∧ New H (.lst (List.replicate k.toNat xs).flatten) Q ⟨⟩
  | _, _ => False
theorem op_mulM : OpR X (binaryOp .Mult) rMulM := by
  intro pins s σ H x y v u Q I rx ry h
  cases x <;> cases y <;> first
    | exact False.elim h
    | exact op_mulB pins s σ H _ _ v u Q I rx ry ⟨_, _, rfl, rfl, h.1, h.2⟩
    | (obtain ⟨xs, h1, h2, h3, h4, h5⟩ := h
       exact op_rep pins s σ H _ _ v u Q I rx ry ⟨_, _, _, rfl, rfl, h1, h2, h3, h4, h5.raw⟩)
def rEqM (K : PySem.W.Frag) : R2 := fun x y H Q => if scal x y = true then Q (.bl (decide (x = y))) H else rEqD K x y H Q
def rNeM (K : PySem.W.Frag) : R2 := fun x y H Q => if scal x y = true then Q (.bl (!decide (x = y))) H else rNeD K x y H Q
theorem op_eqM (hu : X.A.units + 64 < cLine) : OpR X (compareOp .Eq) (rEqM X.K) := by
  intro pins s σ H x y v u Q I rx ry h
  unfold rEqM at h
  by_cases hs : scal x y = true
  · rw [if_pos hs] at h
    exact op_eq pins s σ H x y v u Q I rx ry ⟨hs, h⟩
  · rw [if_neg hs] at h
    exact op_eqD hu pins s σ H x y v u Q I rx ry h
theorem op_neM (hu : X.A.units + 64 < cLine) : OpR X (compareOp .NotEq) (rNeM X.K) := by
  intro pins s σ H x y v u Q I rx ry h
  unfold rNeM at h
  by_cases hs : scal x y = true
  · rw [if_pos hs] at h
    exact op_ne pins s σ H x y v u Q I rx ry ⟨hs, h⟩
  · rw [if_neg hs] at h
    exact op_neD hu pins s σ H x y v u Q I rx ry h
def rIxM : R2 := fun x y H Q => match x, y with
  | .ref p, .int i => (match H p with
    | some (.tup xs) => ∃ v, atI xs i = some v ∧ Q v H
    | some (.lst xs) => ∃ v, atI xs i = some v ∧ Q v H
    | _ => False)
  | .str z, .int i => ∃ c, z.length ≤ sizeLine ∧ atI z.cps.toList i = some c ∧ Q (.str ⟨#[c]⟩) H
  | _, _ => False
theorem ix_M : IxR X rIxM := by
  intro value slice pins s σ H x y v u Q I rx ry h hs
  cases x with
  | ref p =>
    cases y with
    | int i =>
      have h' : (match H p with
        | some (.tup xs) => ∃ v, atI xs i = some v ∧ Q v H
        | some (.lst xs) => ∃ v, atI xs i = some v ∧ Q v H
        | _ => False) := h
      split at h'
      · rename_i xs e
        obtain ⟨z, h2, h3⟩ := h'
        exact ix_tup value slice pins s σ H _ _ v u Q I rx ry ⟨_, xs, _, z, rfl, rfl, SqT.of e, h2, h3⟩ hs
      · rename_i xs e
        obtain ⟨z, h2, h3⟩ := h'
        exact ix_list value slice pins s σ H _ _ v u Q I rx ry ⟨_, xs, _, z, rfl, rfl, SqL.of e, h2, h3⟩ hs
      · exact h'.elim
    | _ => exact False.elim h
  | str z =>
    cases y with
    | int i =>
      obtain ⟨c, h1, h2, h3⟩ := h
      exact ix_str value slice pins s σ H _ _ v u Q I rx ry ⟨_, _, c, rfl, rfl, h1, h2, h3⟩ hs
    | _ => exact False.elim h
  | _ => exact False.elim h
def rSlM : V → Option Int → Option Int → Hp → VK → Prop := fun x lo hi H Q => match x with
  | .ref a => (match H a with
    | some (.lst xs) => New H (.lst (cutV xs lo hi)) Q ⟨⟩
    | _ => False)
  | _ => False
theorem sl_M : SlR X rSlM := by
  intro pins s σ H x v vl vu lo hi sl Q I rx hs pl pu h
  cases x with
  | ref a =>
    have h' : (match H a with
      | some (.lst xs) => New H (.lst (cutV xs lo hi)) Q ⟨⟩
      | _ => False) := h
    split at h'
    · rename_i xs e
      exact sl_list pins s σ H _ v vl vu lo hi sl Q I rx hs pl pu ⟨_, xs, rfl, SqL.of e, h'.raw⟩
    · exact h'.elim
  | _ => exact False.elim h
def rSlK (K : PySem.W.Frag) : V → Option Int → Option Int → Hp → VK → Prop := fun x lo hi H Q => ∃ a xs, x = .ref a ∧ SqL K H a xs ∧ New H (.lst (cutV xs lo hi)) Q ⟨⟩
theorem sl_K : SlR X (rSlK X.K) := by
  intro pins s σ H x v vl vu lo hi sl Q I rx hs pl pu h
  obtain ⟨a, xs, e, h1, h2⟩ := h
  exact sl_list pins s σ H _ v vl vu lo hi sl Q I rx hs pl pu ⟨a, xs, e, h1, h2.raw⟩
def rLenM : List V → Hp → VK → Prop := fun xs H Q => match xs with
  | [.ref p] => (match H p with
    | some (.lst ys) => Q (.int ys.length) H
    | some (.tup ys) => Q (.int ys.length) H
    | _ => False)
  | [.str z] => z.length ≤ sizeLine ∧ Q (.int z.length) H
  | _ => False
theorem call_lenM : CallR X (.builtin "len") rLenM := by
  intro pins s σ H xs us Q I r h
  match xs, r, h with
  | [.ref p], r, h =>
    have h' : (match H p with
      | some (.lst ys) => Q (.int ys.length) H
      | some (.tup ys) => Q (.int ys.length) H
      | _ => False) := h
    split at h'
    · rename_i ys e
      exact call_len_seq pins s σ H _ us Q I r ⟨p, ys, rfl, .inl (SqL.of e), h'⟩
    · rename_i ys e
      exact call_len_seq pins s σ H _ us Q I r ⟨p, ys, rfl, .inr (SqT.of e), h'⟩
    · exact h'.elim
  | [.str z], r, h => exact call_len_str pins s σ H _ us Q I r ⟨z, rfl, h.1, h.2⟩
theorem call_lenK : CallR X (.builtin "len") (fun xs H Q => ∃ p ys, xs = [.ref p] ∧ SqL X.K H p ys ∧ Q (.int ys.length) H) := by
  intro pins s σ H xs us Q I r h
  obtain ⟨p, ys, e, h1, h2⟩ := h
  exact call_len_seq pins s σ H _ us Q I r ⟨p, ys, e, .inl h1, h2⟩
theorem scal_ii {i j : Int} : scal (.int i) (.int j) = true := rfl
theorem scal_ss {i j : Str} : scal (.str i) (.str j) = true := rfl
theorem scal_bb {i j : Bool} : scal (.bl i) (.bl j) = true := rfl
theorem scal_nn : scal .non .non = true := rfl
theorem scal_rr {i j : Addr} : scal (.ref i) (.ref j) = false := rfl
theorem tyNm_i {H : Hp} {i : Int} : tyNm H (.int i) = some .int := rfl
theorem tyNm_s {H : Hp} {i : Str} : tyNm H (.str i) = some .str := rfl
theorem tyNm_b {H : Hp} {i : Bool} : tyNm H (.bl i) = some .bl := rfl
theorem tyNm_n {H : Hp} : tyNm H .non = some .non := rfl
theorem tyNm_r {H : Hp} {a : Addr} : tyNm H (.ref a) = (match H a with
    | some (.lst _) => some .lst
    | some (.frz _ (.lst _)) => some .lst
    | some (.tup _) => some .tup
    | some (.dK _) => some .dct
    | some (.dT _) => some .dct
    | _ => none) := rfl
theorem two_line : 2 ≤ sizeLine := by decide
theorem atI_c0 {α : Type} {x : α} {xs : List α} : atI (x :: xs) 0 = some x := atI_nat (j := 0) rfl
theorem atI_c1 {α : Type} {x y : α} {xs : List α} : atI (x :: y :: xs) 1 = some y := atI_nat (j := 1) rfl
theorem atI_c2 {α : Type} {x y z : α} {xs : List α} : atI (x :: y :: z :: xs) 2 = some z := atI_nat (j := 2) rfl
theorem atI_c3 {α : Type} {x y z u : α} {xs : List α} : atI (x :: y :: z :: u :: xs) 3 = some u := atI_nat (j := 3) rfl
theorem ite_and_same {p q A B : Prop} [Decidable p] [Decidable q] : (if p then (if q then A else B) else B) = (if p ∧ q then A else B) := by
  by_cases hp : p <;> by_cases hq : q <;> simp [hp, hq]
theorem ite_or_same {p q A B : Prop} [Decidable p] [Decidable q] : (if p then A else (if q then A else B)) = (if p ∨ q then A else B) := by
  by_cases hp : p <;> by_cases hq : q <;> simp [hp, hq]
end
section
variable {X : Cx} {es : List Expr} {t : TA} {pos : Pos}
def MonoA (t : TA) : Prop := ∀ σ H (Q Q' : List V → Hp → Prop), (∀ v H1, Q v H1 → Q' v H1) → t σ H Q → t σ H Q'
theorem PA.weak {t : TA} (h : PA X es t) {u : TA} (q : ∀ σ H (Q : List V → Hp → Prop), u σ H Q → t σ H Q) : PA X es u := fun pos pins s σ H Q I hu => h pos pins s σ H Q I (q σ H Q hu)
theorem pe_tupS {x1} (h : PA X es t) : PE X (.Tuple es x1 pos) (tTupS t) := by
  intro pins s σ H Q I hq
  refine wpAny_Tuple_spliced (thn (h pos pins s σ H _ I hq) fun us s1 ⟨xs, H1, I1, r, z, q⟩ => ⟨by rw [← r.length]; exact z, ?_⟩)
  have hf : H1 s1.heap.objs.size = none := I1.hok.fresh (Nat.le_refl _)
  refine ⟨.ref s1.heap.objs.size, upd H1 s1.heap.objs.size (.tup xs), I1.laid (t' := s1.toks) (fun b u e => Heap.get?_push_of_some _ e) (Nat.le_refl _) ?_, rfl, q.raw _ hf⟩
  exact ⟨z, us, r, ⟨_, Heap.get?_push_size _ rfl, rfl, _, rfl⟩⟩
theorem pe_lstS (h : PA X es t) : PE X (.List es pos) (tLstS t) := by
  intro pins s σ H Q I hq
  refine wpAny_List_spliced (thn (h pos pins s σ H _ I hq) fun us s1 ⟨xs, H1, I1, r, z, q⟩ => ⟨by rw [← r.length]; exact z, ?_⟩)
  have hf : H1 s1.heap.objs.size = none := I1.hok.fresh (Nat.le_refl _)
  refine ⟨.ref s1.heap.objs.size, upd H1 s1.heap.objs.size (.lst xs), I1.laid (t' := s1.toks) (fun b u e => Heap.get?_push_of_some _ e) (Nat.le_refl _) ?_, rfl, q.raw _ hf⟩
  exact ⟨z, us, 0, r, Heap.get?_push_size _ rfl⟩
theorem call_listS : CallR X (.type "list") (fun xs H Q => ∃ p ys, xs = [.ref p] ∧ (SqL X.K H p ys ∨ SqT X.K H p ys) ∧ New H (.lst ys) Q ⟨⟩) := by
  intro pins s σ H xs us Q I r h
  obtain ⟨p, ys, e, h1, h2⟩ := h
  exact call_list_of pins s σ H xs us Q I r ⟨p, ys, e, h1, h2.raw⟩
end
theorem Same.tup {K : PySem.W.Frag} {H H' : Hp} {a : Addr} {xs : List V} (e : Same H H') (h : SqT K H a xs) : SqT K H' a xs := by
  rcases h with (h | ⟨o, h⟩) | h
  · exact .inl (.inl (e _ _ h))
  · exact .inl (.inr ⟨o, e _ _ h⟩)
  · exact .inr h
end L2

namespace L2
open PySem PySem.Spec PyProof.Rows
open PySem.Builtin.Int (intBits)
section
variable {X : Cx} {e a b c : Expr} {es rest : List Expr} {pos : Pos} {tg iter : Expr}
theorem PE.weak {t u : TE} (h : PE X e t) (q : ∀ σ H Q, u σ H Q → t σ H Q) : PE X e u := fun pins s σ H Q I hu => h pins s σ H Q I (q σ H Q hu)
theorem PT.weak {t u : TT} (h : PT X e t) (q : ∀ σ H Q, u σ H Q → t σ H Q) : PT X e u := fun pins s σ H Q I hu => h pins s σ H Q I (q σ H Q hu)
theorem PI.weak {t u : TI} (h : PI X tg iter t) (q : ∀ σ H Q, u σ H Q → t σ H Q) : PI X tg iter u := fun pins s σ H Q I hu => h pins s σ H Q I (q σ H Q hu)
theorem OpR.weak {f : Value → Value → Sem Value} {r r' : R2} (h : OpR X f r) (q : ∀ x y H Q, r' x y H Q → r x y H Q) : OpR X f r' := fun pins s σ H x y v u Q I rx ry hr => h pins s σ H x y v u Q I rx ry (q x y H Q hr)
theorem UnR.weak {f : Value → Sem Value} {r r' : V → Hp → VK → Prop} (h : UnR X f r) (q : ∀ x H Q, r' x H Q → r x H Q) : UnR X f r' := fun pins s σ H x v Q I rx hr => h pins s σ H x v Q I rx (q x H Q hr)
theorem CallR.weak {f : Value} {r r' : List V → Hp → VK → Prop} (h : CallR X f r) (q : ∀ xs H Q, r' xs H Q → r xs H Q) : CallR X f r' := fun pins s σ H xs us Q I rx hr => h pins s σ H xs us Q I rx (q xs H Q hr)
theorem IxR.weak {r r' : R2} (h : IxR X r) (q : ∀ x y H Q, r' x y H Q → r x y H Q) : IxR X r' := fun value slice pins s σ H x y v u Q I rx ry hr hs => h value slice pins s σ H x y v u Q I rx ry (q x y H Q hr) hs

def tVarF (i : Nat) : TE := fun σ H Q => match σ[i]? with
  | some (some v) => Q v H
  | _ => False
theorem pvF (i : Nat) {x : Str} {pos : Pos} (hN : X.N[i]? = some x := by rfl) (hv : Vis X.env.scope x := by first | exact Or.inl rfl | exact Or.inr (Or.inl rfl) | exact Or.inr (Or.inr rfl)) (hd : (x == ("__debug__" : Str)) = false := by decide)
    (hcd : (x == ("__classdict__" : Str)) = false := by decide) : PE X (.Name x pos) (tVarF i) := (pe_var hN hv hd hcd).weak fun σ H Q h => by
  unfold tVarF at h
  split at h
  · rename_i v e
    exact ⟨v, e, h⟩
  · exact h.elim
def rIF (C : Int → Int → Prop) (g : Int → Int → V) : R2 := fun x y H Q => match x, y with
  | .int i, .int j => C i j ∧ Q (g i j) H
  | _, _ => False
def rI0F (g : Int → Int → V) : R2 := fun x y H Q => match x, y with
  | .int i, .int j => Q (g i j) H
  | _, _ => False
theorem rIF_of {C : Int → Int → Prop} {g : Int → Int → V} : ∀ x y H Q, rIF C g x y H Q → rI C g x y H Q := fun x y H Q h => by
  cases x <;> cases y <;> first | exact False.elim h | exact ⟨_, _, rfl, rfl, h⟩
theorem rI0F_of {g : Int → Int → V} : ∀ x y H Q, rI0F g x y H Q → rI0 g x y H Q := fun x y H Q h => by
  cases x <;> cases y <;> first | exact False.elim h | exact ⟨_, _, rfl, rfl, h⟩
theorem of_sub : OpR X (binaryOp .Sub) (rI0F fun i j => .int (i - j)) := op_sub.weak rI0F_of
theorem of_fdiv : OpR X (binaryOp .FloorDiv) (rIF CFd fun i j => .int (i.fdiv j)) := op_fdivF.weak rIF_of
theorem of_mod : OpR X (binaryOp .Mod) (rIF (fun _ j => j ≠ 0) fun i j => .int (i.fmod j)) := op_modN.weak rIF_of
theorem of_pow : OpR X (binaryOp .Pow) (rIF CPow fun i j => .int (i ^ j.toNat)) := op_pow.weak rIF_of
theorem of_lt : OpR X (compareOp .Lt) (rI0F fun i j => .bl (decide (i < j))) := op_lt.weak rI0F_of
theorem of_le : OpR X (compareOp .LtE) (rI0F fun i j => .bl (decide (i ≤ j))) := op_le.weak rI0F_of
theorem of_gt : OpR X (compareOp .Gt) (rI0F fun i j => .bl (decide (j < i))) := op_gt.weak rI0F_of
theorem of_ge : OpR X (compareOp .GtE) (rI0F fun i j => .bl (decide (j ≤ i))) := op_ge.weak rI0F_of
def rUF (g : Int → V) : V → Hp → VK → Prop := fun x H Q => match x with
  | .int i => Q (g i) H
  | _ => False
theorem of_neg : UnR X (unaryOp .USub) (rUF fun i => .int (-i)) := un_neg.weak fun x H Q h => by
  cases x <;> first | exact False.elim h | exact ⟨_, rfl, h⟩
def tBF (t : TE) : TT := fun σ H Q => t σ H fun x H1 => match x with
  | .bl k => Q k H1
  | _ => False
theorem pt_cmpF {op : CmpOp} {r : R2} {ta tb : TE} (ho : OpR X (compareOp op) r) (ha : PE X a ta) (hb : PE X b tb) (hm : behindInMarks op b = false) : PT X (.Compare a [op] [b] pos) (tBF (tOp r ta tb)) := by
  intro pins s σ H Q I h
  refine (pt_cmpR (ho.weak (r' := fun x y H Q => r x y H Q) fun _ _ _ _ z => z) ha hb hm) pins s σ H _ I ?_
  unfold tTest
  exact h |> fun h => by
    unfold tBF at h
    have e : (fun (x : V) (H1 : Hp) => match x with | .bl k => Q k H1 | _ => False) = fun x H1 => ∃ k, x = V.bl k ∧ Q k H1 := by
      funext x H1
      cases x <;> simp
    rw [e] at h
    exact h
theorem pt_valF {t : TE} (h : PE X e t) (he : ∀ whole, isTrue e X.env whole = (do let v ← whole; standAt e.pos; holding [v] (truthy v)) := by intro _; rfl) : PT X e (tBF t) := by
  intro pins s σ H Q I hw
  refine (pt_val h he) pins s σ H _ I ?_
  unfold tB
  unfold tBF at hw
  have e : (fun (x : V) (H1 : Hp) => match x with | .bl k => Q k H1 | _ => False) = fun x H1 => ∃ k, x = V.bl k ∧ Q k H1 := by
    funext x H1
    cases x <;> simp
  rw [e] at hw
  exact hw
def tAndF (ta tb : TE) : TE := fun σ H Q => ta σ H fun x H1 => match x with
  | .bl c => if c = true then tb σ H1 Q else Q (.bl false) H1
  | _ => False
def tOrF (ta tb : TE) : TE := fun σ H Q => ta σ H fun x H1 => match x with
  | .bl c => if c = true then Q (.bl true) H1 else tb σ H1 Q
  | _ => False
def tNotF (ta : TE) : TE := fun σ H Q => ta σ H fun x H1 => match x with
  | .bl c => Q (.bl (!c)) H1
  | _ => False
theorem pe_andF {ta tb : TE} (ha : PE X a ta) (hb : PE X (.BoolOp .And (b :: rest) pos) tb) : PE X (.BoolOp .And (a :: b :: rest) pos) (tAndF ta tb) := by
  intro pins s σ H Q I h
  refine (pe_and ha hb) pins s σ H Q I ?_
  unfold tAndV
  unfold tAndF at h
  have e : (fun (x : V) (H1 : Hp) => match x with | .bl c => (if c = true then tb σ H1 Q else Q (.bl false) H1) | _ => False) = fun x H1 => ∃ c, x = V.bl c ∧ if c = true then tb σ H1 Q else Q (.bl false) H1 := by
    funext x H1
    cases x <;> simp
  rw [e] at h
  exact h
theorem pe_notF {ta : TE} (ha : PE X a ta) : PE X (.UnaryOp .Not a pos) (tNotF ta) := by
  intro pins s σ H Q I h
  refine (pe_not ha) pins s σ H Q I ?_
  unfold tNotV
  unfold tNotF at h
  have e : (fun (x : V) (H1 : Hp) => match x with | .bl c => Q (.bl (!c)) H1 | _ => False) = fun x H1 => ∃ c, x = V.bl c ∧ Q (.bl (!c)) H1 := by
    funext x H1
    cases x <;> simp
  rw [e] at h
  exact h
def iRng1F (ta : TA) : TI := fun σ H R => ta σ H fun vs H1 => match vs with
  | [.int j] => -(2 ^ 62) ≤ j ∧ j < 2 ^ 62 ∧ R (Itr 0 j.toNat) H1
  | _ => False
def iRng2F (ta : TA) : TI := fun σ H R => ta σ H fun vs H1 => match vs with
  | [.int i, .int j] => (-(2 ^ 62) ≤ i ∧ i < 2 ^ 62 ∧ -(2 ^ 62) ≤ j ∧ j < 2 ^ 62) ∧ R (Itr i (j - i).toNat) H1
  | _ => False
def iRng3F (ta : TA) : TI := fun σ H R => ta σ H fun vs H1 => match vs with
  | [.int i, .int j, .int c] => (0 ≤ i ∧ i < 2 ^ 32 ∧ 0 ≤ j ∧ j < 2 ^ 32 ∧ 0 < c ∧ c < 2 ^ 30) ∧ R (Itr3 i c (rngN i j c)) H1
  | _ => False
theorem pi_range1F {ta : TA} {p pos : Pos} (hg : Gl X "range") (hm : X.mg "range" = none) (ha : PA X [a] ta) (hs : starEach [a] X.env = [(false, eval a X.env)] := by rfl) : PI X tg (.Call (.Name "range" p) [a] [] pos) (iRng1F ta) := by
  refine (pi_range1 hg hm ha hs).weak fun σ H R h => ?_
  unfold iRng1
  unfold iRng1F at h
  have e : (fun (vs : List V) (H1 : Hp) => (match vs with | [.int j] => -(2 ^ 62) ≤ j ∧ j < 2 ^ 62 ∧ R (Itr 0 j.toNat) H1 | _ => False : Prop)) = fun vs H1 => ∃ j : Int, vs = [.int j] ∧ -(2 ^ 62) ≤ j ∧ j < 2 ^ 62 ∧ R (Itr 0 j.toNat) H1 := by
    funext vs H1
    refine propext ⟨fun z => ?_, fun ⟨j, e, z⟩ => by subst e; exact z⟩
    match vs, z with
    | [.int j], z => exact ⟨j, rfl, z⟩
  rw [e] at h
  exact h
theorem pi_range2F {ta : TA} {p pos : Pos} (hg : Gl X "range") (hm : X.mg "range" = none) (ha : PA X [a, b] ta) (hs : starEach [a, b] X.env = [(false, eval a X.env), (false, eval b X.env)] := by rfl) (hs2 : starEach [b] X.env = [(false, eval b X.env)] := by rfl) :
    PI X tg (.Call (.Name "range" p) [a, b] [] pos) (iRng2F ta) := by
  refine (pi_range2 hg hm ha hs hs2).weak fun σ H R h => ?_
  unfold iRng2
  unfold iRng2F at h
  have e : (fun (vs : List V) (H1 : Hp) => match vs with | [.int i, .int j] => (-(2 ^ 62) ≤ i ∧ i < 2 ^ 62 ∧ -(2 ^ 62) ≤ j ∧ j < 2 ^ 62) ∧ R (Itr i (j - i).toNat) H1 | _ => False) = fun vs H1 => ∃ i j : Int, vs = [.int i, .int j] ∧ (-(2 ^ 62) ≤ i ∧ i < 2 ^ 62 ∧ -(2 ^ 62) ≤ j ∧ j < 2 ^ 62) ∧ R (Itr i (j - i).toNat) H1 := by
    funext vs H1
    refine propext ⟨fun z => ?_, fun ⟨i, j, e, z⟩ => by subst e; exact z⟩
    match vs, z with
    | [.int i, .int j], z => exact ⟨i, j, rfl, z⟩
  rw [e] at h
  exact h
def iListF (K : PySem.W.Frag) (tl : TE) : TI := fun σ H R => tl σ H fun x H1 => match x with
  | .ref a => (∃ xs, SqL K H1 a xs) ∧ R (Itl K a) H1
  | _ => False
theorem pi_listF {l : Expr} {tl : TE} (hl : PE X l tl) : PI X tg l (iListF X.K tl) := (pi_list hl).weak fun σ H R h => by
  unfold iList
  unfold iListF at h
  have e : (fun (x : V) (H1 : Hp) => match x with | .ref a => (∃ xs, SqL X.K H1 a xs) ∧ R (Itl X.K a) H1 | _ => False) = fun x H1 => ∃ a, x = .ref a ∧ (∃ xs, SqL X.K H1 a xs) ∧ R (Itl X.K a) H1 := by
    funext x H1
    cases x <;> simp
  rw [e] at h
  exact h
def rIxS0 (K : PySem.W.Frag) : R2 := fun x y H Q => match x, y with
  | .ref p, .int i => ∃ ns : List Int, SqL K H p (ns.map V.int) ∧ 0 ≤ i ∧ i < ns.length ∧ Q (.int (ns.getD i.toNat 0)) H
  | _, _ => False
theorem atI_ints {ns : List Int} {i : Int} (h0 : 0 ≤ i) (h1 : i < ns.length) : atI (ns.map V.int) i = some (.int (ns.getD i.toNat 0)) := by
  obtain ⟨j, rfl⟩ := Int.eq_ofNat_of_zero_le h0
  refine atI_nat ?_
  have hj : j < ns.length := by omega
  rw [List.getElem?_map, List.getElem?_eq_getElem hj, List.getD_eq_getElem?_getD, Int.toNat_natCast, List.getElem?_eq_getElem hj]
  rfl
theorem ix_S : IxR X (rIxS0 X.K) := ix_list.weak fun x y H Q h => by
  cases x with
  | ref p =>
    cases y with
    | int i =>
      obtain ⟨ns, h1, h2, h3, h4⟩ := h
      exact ⟨p, _, i, _, rfl, rfl, h1, atI_ints h2 h3, h4⟩
    | _ => exact False.elim h
  | _ => exact False.elim h
def rLenK (K : PySem.W.Frag) : List V → Hp → VK → Prop := fun xs H Q => match xs with
  | [.ref p] => ∃ ys, SqL K H p ys ∧ Q (.int ys.length) H
  | _ => False
theorem call_lenKF : CallR X (.builtin "len") (rLenK X.K) := call_lenK.weak fun xs H Q h => by
  match xs, h with
  | [.ref p], ⟨ys, h1, h2⟩ => exact ⟨p, ys, rfl, h1, h2⟩
def rSlKF (K : PySem.W.Frag) : V → Option Int → Option Int → Hp → VK → Prop := fun x lo hi H Q => match x with
  | .ref a => ∃ xs, SqL K H a xs ∧ New H (.lst (cutV xs lo hi)) Q ⟨⟩
  | _ => False
theorem sl_KF : SlR X (rSlKF X.K) := by
  intro pins s σ H x v vl vu lo hi sl Q I rx hs pl pu h
  cases x <;> first
    | exact False.elim h
    | (obtain ⟨xs, h1, h2⟩ := h
       exact sl_K pins s σ H _ v vl vu lo hi sl Q I rx hs pl pu ⟨_, xs, rfl, h1, h2⟩)
def tPartF (t : TE) : TO := fun σ H Q => t σ H fun x H1 => match x with
  | .int i => Q (some i) H1
  | _ => False
theorem po_someF {te : TE} (h : PE X e te) : PO X (some e) (tPartF te) := by
  intro pins s σ H Q I hw
  refine (po_some h) pins s σ H Q I ?_
  unfold tPart
  unfold tPartF at hw
  have e : (fun (x : V) (H1 : Hp) => match x with | .int i => Q (some i) H1 | _ => False) = fun x H1 => ∃ i, x = V.int i ∧ Q (some i) H1 := by
    funext x H1
    cases x <;> simp
  rw [e] at hw
  exact hw
def rAbs : List V → Hp → VK → Prop := fun xs H Q => match xs with
  | [.int i] => Q (.int i.natAbs) H
  | _ => False
theorem call_absF : CallR X (.builtin "abs") rAbs := call_abs.weak fun xs H Q h => by
  match xs, h with
  | [.int i], h =>
    refine ⟨i, rfl, ?_⟩
    have e : (if i < 0 then -i else i) = (i.natAbs : Int) := by split <;> omega
    rw [e]
    exact h
def rMin : List V → Hp → VK → Prop := fun xs H Q => match xs with
  | [.int i, .int j] => Q (.int (min i j)) H
  | _ => False
def rMax : List V → Hp → VK → Prop := fun xs H Q => match xs with
  | [.int i, .int j] => Q (.int (max i j)) H
  | _ => False
theorem call_minF (hc : X.calm = true) : CallR X (.builtin "min") rMin := (call_min2 hc).weak fun xs H Q h => by
  match xs, h with
  | [.int i, .int j], h =>
    refine ⟨i, j, rfl, ?_⟩
    have e : (if j < i then j else i) = min i j := by split <;> omega
    rw [e]
    exact h
theorem call_maxF (hc : X.calm = true) : CallR X (.builtin "max") rMax := (call_max2 hc).weak fun xs H Q h => by
  match xs, h with
  | [.int i, .int j], h =>
    refine ⟨i, j, rfl, ?_⟩
    have e : (if j > i then j else i) = max i j := by split <;> omega
    rw [e]
    exact h
def rListS (K : PySem.W.Frag) : List V → Hp → VK → Prop := fun xs H Q => match xs with
  | [.ref p] => (match H p with
    | some (.lst ys) => New H (.lst ys) Q ⟨⟩
    | some (.tup ys) => New H (.lst ys) Q ⟨⟩
    | _ => False)
  | _ => False
theorem call_listF : CallR X (.type "list") (rListS X.K) := call_listS.weak fun xs H Q h => by
  match xs, h with
  | [.ref p], h =>
    have h' : (match H p with
      | some (.lst ys) => New H (.lst ys) Q ⟨⟩
      | some (.tup ys) => New H (.lst ys) Q ⟨⟩
      | _ => False) := h
    split at h'
    · rename_i ys e
      exact ⟨p, ys, rfl, .inl (SqL.of e), h'⟩
    · rename_i ys e
      exact ⟨p, ys, rfl, .inr (SqT.of e), h'⟩
    · exact h'.elim
theorem ex_at0 {α : Type} {x : α} {xs : List α} {p : α → Prop} : (∃ v, atI (x :: xs) 0 = some v ∧ p v) = p x := by
  rw [atI_c0]; simp
theorem ex_at1 {α : Type} {x y : α} {xs : List α} {p : α → Prop} : (∃ v, atI (x :: y :: xs) 1 = some v ∧ p v) = p y := by
  rw [atI_c1]; simp
theorem ex_at2 {α : Type} {x y z : α} {xs : List α} {p : α → Prop} : (∃ v, atI (x :: y :: z :: xs) 2 = some v ∧ p v) = p z := by
  rw [atI_c2]; simp
theorem ex_at3 {α : Type} {x y z u : α} {xs : List α} {p : α → Prop} : (∃ v, atI (x :: y :: z :: u :: xs) 3 = some v ∧ p v) = p u := by
  rw [atI_c3]; simp
end
end L2
namespace L2
open PySem PySem.Spec PyProof.Rows PySem.W
theorem kqdPs_ints (ns : List Int) : kqdPs (ns.map Dat.int) = ns.map PyData.int := by
  induction ns with
  | nil => rfl
  | cons n ns ih => simp only [List.map_cons, kqdPs, kqdP, ih]
theorem shaped_of {n : Nat} {d : Dat} (h : kqdOk n d = true) (hn : n ≤ 64) : SeqAt.shaped (kqdP d) = true := by
  have l := kqd_lay n d h
  unfold SeqAt.shaped
  rw [l.1, Bool.true_and]
  exact decide_eq_true (Nat.le_trans l.2 hn)
theorem eqv_of {n k : Nat} {d e : Dat} (hd : kqdOk n d = true) (he : kqdOk k e = true) {c : Bool} (hc : c = true ↔ d = e) : PyData.eqv (kqdP d) (kqdP e) = c := by
  have q := kqd_eqv n d e k hd he
  cases c with
  | true => exact q.mpr (hc.mp rfl)
  | false => exact Bool.eq_false_iff.mpr fun z => absurd (hc.mpr (q.mp z)) Bool.false_ne_true
theorem eqD_by {K : PySem.W.Frag} {H : Hp} {x y : V} {d e : Dat} {n k : Nat} {c : Bool} {Q : VK} (hd : Deep K H x (kqdP d)) (he : Deep K H y (kqdP e)) (kd : kqdOk n d = true) (ke : kqdOk k e = true) (hn : n ≤ 64) (hk : k ≤ 64) (hc : c = true ↔ d = e) (q : Q (.bl c) H) : rEqD K x y H Q :=
  ⟨_, _, hd, he, shaped_of kd hn, shaped_of ke hk, by rw [eqv_of kd ke hc]; exact q⟩
theorem neD_by {K : PySem.W.Frag} {H : Hp} {x y : V} {d e : Dat} {n k : Nat} {c : Bool} {Q : VK} (hd : Deep K H x (kqdP d)) (he : Deep K H y (kqdP e)) (kd : kqdOk n d = true) (ke : kqdOk k e = true) (hn : n ≤ 64) (hk : k ≤ 64) (hc : c = true ↔ d = e) (q : Q (.bl (!c)) H) : rNeD K x y H Q :=
  ⟨_, _, hd, he, shaped_of kd hn, shaped_of ke hk, by rw [eqv_of kd ke hc]; exact q⟩
theorem deep_ints {K : PySem.W.Frag} {H : Hp} : ∀ ns : List Int, DeepAll K H (ns.map V.int) (ns.map PyData.int)
  | [] => .nil
  | n :: ns => .cons (.int n) (deep_ints ns)
theorem deep_lstI {K : PySem.W.Frag} {H : Hp} {p : Addr} {ns : List Int} (h : SqL K H p (ns.map V.int)) : Deep K H (.ref p) (kqdP (.list (ns.map .int))) := by
  rw [kqdP, kqdPs_ints]
  exact .lst h (deep_ints ns)
theorem map_int_inj {ns ms : List Int} : ns.map Dat.int = ms.map Dat.int ↔ ns = ms := by
  induction ns generalizing ms with
  | nil => cases ms <;> simp
  | cons n ns ih => cases ms <;> simp [ih]
theorem ok_int1 {ns : List Int} (k : Nat) : (ns.map Dat.int).all (kqdOk k) = true := by
  induction ns with
  | nil => rfl
  | cons n ns ih => rw [List.map_cons, List.all_cons, ih, Bool.and_true]; cases k <;> rfl
theorem okL_ints (ns : List Int) : kqdOk 1 (.list (ns.map .int)) = true := ok_int1 0
theorem eqL_ints {K : PySem.W.Frag} {H : Hp} {p q : Addr} {ns ms : List Int} {Q : VK} (hp : SqL K H p (ns.map V.int)) (hq : SqL K H q (ms.map V.int)) (h : Q (.bl (decide (ns = ms))) H) : rEqD K (.ref p) (.ref q) H Q :=
  eqD_by (deep_lstI hp) (deep_lstI hq) (okL_ints ns) (okL_ints ms) (by decide) (by decide) (by rw [decide_eq_true_eq, Dat.list.injEq, map_int_inj]) h
theorem neL_ints {K : PySem.W.Frag} {H : Hp} {p q : Addr} {ns ms : List Int} {Q : VK} (hp : SqL K H p (ns.map V.int)) (hq : SqL K H q (ms.map V.int)) (h : Q (.bl (!decide (ns = ms))) H) : rNeD K (.ref p) (.ref q) H Q :=
  neD_by (deep_lstI hp) (deep_lstI hq) (okL_ints ns) (okL_ints ms) (by decide) (by decide) (by rw [decide_eq_true_eq, Dat.list.injEq, map_int_inj]) h
end L2
namespace L2
open PySem PySem.Spec PyProof.Rows
open PySem.Builtin.Int (intBits)
def tCut (t u : TS) : TS := fun D σ H => ∃ Mid : St → Hp → Prop, t { D with nx := Mid } σ H ∧ ∀ σ' H', Mid σ' H' → u D σ' H'
theorem pss_cut {X : Cx} {st : Stmt} {rest : List Stmt} {t u : TS} (h1 : PS X st t) (h2 : PSs X rest u) : PSs X (st :: rest) (tCut t u) := by
  intro pins s σ H D I h
  obtain ⟨Mid, h, hm⟩ := h
  refine wpAny_execs_cons (thn (h1 pins s σ H { D with nx := Mid } I h) fun f s1 q => ?_)
  cases f with
  | next =>
    obtain ⟨σ', H', I', q⟩ := q
    exact h2 pins s1 σ' H' D I' (hm σ' H' q)
  | ret v => exact q
  | brk => exact q
  | cont => exact q
theorem getD_bits {ns : List Int} {n : Nat} (h : ∀ x ∈ ns, intBits x ≤ n) (k : Nat) : intBits (ns.getD k 0) ≤ n := by
  rw [List.getD_eq_getElem?_getD]
  cases e : ns[k]? with
  | none => exact Nat.zero_le _
  | some x => exact h x (List.mem_of_getElem? e)
end L2

namespace L2
open PySem PySem.Spec PyProof.Rows
theorem closure_go {env : Env} : ∀ (names : List (Str × NameKind)) (acc : List (Str × Addr)), (∀ y, (y, NameKind.free) ∈ names → ∃ c, env.cells.lookup y = some c) →
    ∃ cl, (forIn names acc (fun (x : Str × NameKind) (cs : List (Str × Addr)) => (if x.2 == NameKind.free then (do let c ← cellOf env x.1; pure (ForInStep.yield ((x.1, c) :: cs))) else pure (ForInStep.yield cs) : Sem (ForInStep (List (Str × Addr)))))) = pure cl ∧
      (∀ y c, cl.lookup y = some c → acc.lookup y = some c ∨ ((y, NameKind.free) ∈ names ∧ env.cells.lookup y = some c)) ∧
      (∀ y, (y, NameKind.free) ∈ names → cl.lookup y = env.cells.lookup y) ∧ (∀ y, (∀ k, (y, k) ∈ names → k ≠ NameKind.free) → cl.lookup y = acc.lookup y)
  | [], acc, _ => ⟨acc, rfl, fun y c h => .inl h, fun y h => (nomatch h), fun y _ => rfl⟩
  | (n, k) :: r, acc, h => by
    by_cases hk : k = NameKind.free
    · subst hk
      obtain ⟨c, hc⟩ := h n List.mem_cons_self
      obtain ⟨cl, h1, h2, h3, h4⟩ := closure_go r ((n, c) :: acc) fun y hy => h y (List.mem_cons_of_mem _ hy)
      have e : cellOf env n = pure c := by unfold cellOf; rw [hc]
      refine ⟨cl, ?_, fun y d hd => ?_, fun y hy => ?_, fun y hy => ?_⟩
      · rw [List.forIn_cons]
        simp only [beq_self_eq_true, if_true, e, pure_bind]
        exact h1
      · rcases h2 y d hd with z | ⟨z1, z2⟩
        · rw [List.lookup_cons] at z
          by_cases hy : y = n
          · subst hy
            simp only [beq_self_eq_true] at z
            cases z
            exact .inr ⟨List.mem_cons_self, hc⟩
          · have : (y == n) = false := by simpa using hy
            rw [this] at z
            exact .inl z
        · exact .inr ⟨List.mem_cons_of_mem _ z1, z2⟩
      · by_cases hr : (y, NameKind.free) ∈ r
        · exact h3 y hr
        · rcases List.mem_cons.mp hy with z | z
          · cases z
            by_cases hq : ∃ k, (n, k) ∈ r ∧ k = NameKind.free
            · obtain ⟨k, z, rfl⟩ := hq
              exact absurd z hr
            · rw [h4 n fun k hk e => hq ⟨k, hk, e⟩, List.lookup_cons]
              simp only [beq_self_eq_true]
              exact hc.symm
          · exact absurd z hr
      · have hn : y ≠ n := fun e => by
          subst e
          exact hy _ List.mem_cons_self rfl
        rw [h4 y fun k hk => hy k (List.mem_cons_of_mem _ hk), List.lookup_cons]
        have : (y == n) = false := by simpa using hn
        rw [this]
    · obtain ⟨cl, h1, h2, h3, h4⟩ := closure_go r acc fun y hy => h y (List.mem_cons_of_mem _ hy)
      have hb : (k == NameKind.free) = false := by simpa using hk
      refine ⟨cl, ?_, fun y d hd => ?_, fun y hy => ?_, fun y hy => h4 y fun k hk => hy k (List.mem_cons_of_mem _ hk)⟩
      · rw [List.forIn_cons]
        simp only [hb, Bool.false_eq_true, if_false, pure_bind]
        exact h1
      · rcases h2 y d hd with z | ⟨z1, z2⟩
        · exact .inl z
        · exact .inr ⟨List.mem_cons_of_mem _ z1, z2⟩
      · rcases List.mem_cons.mp hy with z | z
        · cases z
          exact absurd rfl hk
        · exact h3 y z
theorem closure_of {env : Env} {sc : Scope} (h : ∀ y, (y, NameKind.free) ∈ sc.names → ∃ c, env.cells.lookup y = some c) :
    ∃ cl, closureFor sc env = pure cl ∧ (∀ y c, cl.lookup y = some c → (y, NameKind.free) ∈ sc.names ∧ env.cells.lookup y = some c) ∧ (∀ y, (y, NameKind.free) ∈ sc.names → cl.lookup y = env.cells.lookup y) := by
  obtain ⟨cl, h1, h2, h3, _⟩ := closure_go (env := env) sc.names [] h
  refine ⟨cl, ?_, fun y c hy => (h2 y c hy).elim (fun z => nomatch z) id, h3⟩
  unfold closureFor
  show (forIn sc.names [] _ >>= fun cs => pure cs) = pure cl
  rw [bind_pure]
  exact h1
end L2
namespace L2
open PySem PySem.Spec PyProof.Rows
def mask (x : Str) (N : List Str) : List Str := N.map fun y => if y = x then "" else y
def compCx (X : Cx) (scope : Scope) (cl : List (Str × Addr)) (C : Addr) (s₃ : Shared) (H₃ : Hp) (fp : List Addr) (x : Str) : Cx where
  prog := X.prog
  w := X.w
  K := X.K
  mg := X.mg
  base := X.base
  A := X.A
  N := x :: mask x X.N
  s₀ := s₃
  H₀ := H₃
  env := compEnvC scope cl C X.env
  outer := X.stack
  stack := X.stack
  ex := fp
  fn := fun _ => false
  calm := X.calm
  pn := []
  xe := fun _ _ => False
def SameB (D : Addr) (H H' : Hp) : Prop := ∀ b o, b ≠ D → H b = some o → H' b = some o
theorem SameB.upd {D : Addr} {H : Hp} {o : HO} : SameB D H (upd H D o) := fun b u hb e => by rw [upd_ne hb]; exact e
def CompW (J : It) (te : TE) (D : Addr) (σ : St) (H : Hp) (Q : VK) (_ : Tag Q) : Prop := ∃ (n : Nat) (W : Nat → List V → Hp → Prop), W 0 [] H ∧ ∀ i ys H, i ≤ n → W i ys H → H D = some (.lst ys) ∧
  ((J.stop i H ∧ Q (.ref D) H) ∨ (i < n ∧ J.go i H ∧ ys.length < sizeLine ∧ ∀ x H', J.yld i H x H' → te (some x :: σ) H' fun y H2 => H2 D = some (.lst ys) ∧
    ∀ H3, SameB D H2 H3 → H3 D = some (.lst (ys ++ [y])) → W (i + 1) (ys ++ [y]) H3))
def tComp (wi : TI) (te : TE) : TE := fun σ H Q => wi σ H fun J H1 => ∀ D H2, H1 D = none → Same H1 H2 → H2 D = some (.lst []) → CompW J te D σ H2 Q ⟨⟩

theorem relabel_go {env : Env} {x : Str} : ∀ (names : List (Str × NameKind)) (k : NameKind), (names.map fun (n, k) => if (k == NameKind.free && env.scope.kind == .function && env.kindOf n == some .cell) then (n, NameKind.cell) else (n, k)).lookup x = some k →
    (names.lookup x = some k) ∨ (k = .cell ∧ names.lookup x = some .free)
  | [], k, e => by cases e
  | (n, q) :: r, k, e => by
    rw [List.map_cons] at e
    dsimp only at e
    rw [List.lookup_cons]
    cases hx : (x == n) with
    | true =>
      by_cases hc : (q == NameKind.free && env.scope.kind == .function && env.kindOf n == some .cell) = true
      · rw [if_pos hc, List.lookup_cons, hx] at e
        have : q = .free := by
          simp only [Bool.and_eq_true, beq_iff_eq] at hc
          exact hc.1.1
        subst this
        cases e
        exact .inr ⟨rfl, rfl⟩
      · rw [if_neg hc, List.lookup_cons, hx] at e
        exact .inl e
    | false =>
      have e' : (r.map fun (n, k) => if (k == NameKind.free && env.scope.kind == .function && env.kindOf n == some .cell) then (n, NameKind.cell) else (n, k)).lookup x = some k := by
        by_cases hc : (q == NameKind.free && env.scope.kind == .function && env.kindOf n == some .cell) = true
        · rw [if_pos hc, List.lookup_cons, hx] at e
          exact e
        · rw [if_neg hc, List.lookup_cons, hx] at e
          exact e
      exact relabel_go r k e'
theorem lookup_relabel {env : Env} {sc : Scope} {x : Str} (h : (relabel sc env).names.lookup x = some .cell ∨ (relabel sc env).names.lookup x = some .free) : (x, NameKind.free) ∈ sc.names ∨ (x, NameKind.cell) ∈ sc.names := by
  rcases h with h | h
  · rcases relabel_go sc.names _ h with z | ⟨_, z⟩
    · exact .inr (PySem.mem_of_lookup z)
    · exact .inl (PySem.mem_of_lookup z)
  · rcases relabel_go sc.names _ h with z | ⟨z, _⟩
    · exact .inl (PySem.mem_of_lookup z)
    · cases z
structure CompScope (X : Cx) (scope : Scope) (x : Str) : Prop where
  kind : scope.kind = .function
  nocell : ∀ y ∈ scope.names, y.2 ≠ .cell
  loc : ∀ y ∈ scope.names, y.2 = .local → scope.names.lookup y.1 = some .local
  own : scope.names.lookup x = some .local
  free : ∀ y ∈ scope.names, y.2 = .free → X.env.kindOf y.1 = some .cell ∨ X.env.kindOf y.1 = some .free
  nd : (x :: mask x X.N).Nodup
  noe : ∀ y ∈ scope.names, y.1 ≠ ""
  vis : ∀ y ∈ mask x X.N, scope.names.lookup y ≠ some .local

section
variable {X : Cx} {scope : Scope} {x : Str} {cl : List (Str × Addr)} {pins : List (Addr × Obj)} {σ : St} {H : Hp} {s s₄ : Shared} {fp : List Addr}
theorem Inv.comp (S : CompScope X scope x) (I : Inv X pins σ H s) (hcl : ∀ y c, cl.lookup y = some c → (y, NameKind.free) ∈ scope.names ∧ X.env.cells.lookup y = some c) (hcl2 : ∀ y, (y, NameKind.free) ∈ scope.names → cl.lookup y = X.env.cells.lookup y)
    (hfp : ∀ b ∈ fp, FpOk X pins H b) (hlt : ∀ b ∈ fp, b < s.heap.objs.size) {m : Str → Option Value} (hns : s₄.heap.Ns s.heap.objs.size m) (hk : ∀ b o, s.heap.get? b = some o → s₄.heap.get? b = some o) (hos : s₄.os = s.os) (hg : s₄.gens = s.gens) :
    Inv (compCx X scope cl s.heap.objs.size s H fp x) [] (none :: σ) H s₄ := by
  have below : ∀ {b : Addr} {o : Obj}, s.heap.get? b = some o → b ≠ s.heap.objs.size := fun e => Nat.ne_of_lt (Heap.lt_size e)
  refine ⟨⟨I.ok.mod, ?_, I.ok.glob, I.ok.blt, Nat.le_refl _, fun y z c h1 h2 => I.ok.inj y z c (hcl y c h1).2 (hcl z c h2).2, fun y hy => ?_, (fun y c h => nomatch h), I.ok.hd, I.ok.frames, .inl rfl, fun b hb => ⟨Nat.ne_of_lt (hlt b hb), fun y c e => (hfp b hb).2.2.2.2.1 y c (hcl y c e).2⟩,
    fun b o e => I.bs b o e, Nat.le_trans I.ok.bsz I.sz, fun b o e hb => ?_, fun b hb hf => ?_, I.stack, I.stkFree⟩,
    hos, by rw [hg]; exact I.bare, Un.kept hk, ⟨m, hns, fun i y v h1 h2 h3 => ?_⟩, fun y c e => ?_, I.hok.fresh (Nat.le_refl _), fun y c e => I.freeC y c (hcl y c e).2, fun p hp => absurd (show p ∈ ([] : List (Addr × Obj)) from hp) (by simp), I.hok.kept hk, by show (none :: σ).length = (x :: mask x X.N).length; rw [List.length_cons, List.length_cons, mask, List.length_map, I.len]⟩
  · exact S.kind
  · rcases lookup_relabel (env := X.env) (sc := scope) (x := y) hy with z | z
    · obtain ⟨c, hc⟩ := I.ok.has y (S.free _ z rfl)
      exact ⟨c, (hcl2 y z).trans hc⟩
    · exact absurd rfl (S.nocell _ z)
  · rcases (hfp b hb).2.2.2.1 with z | z
    · exact I.ok.noex b o e z
    · exact absurd (Nat.lt_of_lt_of_le (Heap.lt_size (I.ok.bs b o e).1) z) (Nat.lt_irrefl _)
  · rcases List.mem_cons.mp (I.stkSub b hf) with z | z
    · exact (hfp b hb).2.1 z
    · exact (hfp b hb).2.2.1 z
  · cases i with
    | zero => cases h2
    | succ i =>
      have h1m : (mask x X.N)[i]? = some y := by simpa [compCx] using h1
      have h2' : σ[i]? = some (some v) := by simpa using h2
      have hyN : y ∈ mask x X.N := List.mem_of_getElem? h1m
      have hc : (relabel scope X.env).names.lookup y = some .cell ∨ (relabel scope X.env).names.lookup y = some .free := by
        rcases h3 with z | z | z
        · exfalso
          rcases relabel_go (env := X.env) scope.names _ z with q | ⟨q, _⟩
          · exact S.vis y hyN q
          · cases q
        · exact .inl z
        · exact .inr z
      have hfr : (y, NameKind.free) ∈ scope.names := by
        rcases lookup_relabel hc with z | z
        · exact z
        · exact absurd rfl (S.nocell _ z)
      have h1' : X.N[i]? = some y := by
        rw [mask, List.getElem?_map] at h1m
        obtain ⟨z, hz, e⟩ := Option.map_eq_some_iff.mp h1m
        by_cases hzx : z = x
        · rw [if_pos hzx] at e
          exact absurd e.symm (S.noe _ hfr)
        · rw [if_neg hzx] at e
          rw [hz, e]
      obtain ⟨mX, hnX, hl⟩ := I.loc
      have hk2 := S.free _ hfr rfl
      have hvis : Vis X.env.scope y := by
        rcases hk2 with z | z
        · exact .inr (.inl z)
        · exact .inr (.inr z)
      obtain ⟨u, ru, lk⟩ := hl i y v h1' h2' hvis
      refine ⟨u, ru, .inr ⟨hc, ?_⟩⟩
      rcases lk with ⟨z, _⟩ | ⟨_, c, ec, o, ho, hd⟩
      · rcases hk2 with q | q
        · rw [q] at z; cases z
        · rw [q] at z; cases z
      · exact ⟨c, (hcl2 y hfr).trans ec, o, hk c o ho, hd⟩
  · obtain ⟨v, o, ho, hd⟩ := I.cell y c (hcl y c e).2
    exact ⟨v, o, hk c o ho, hd⟩
theorem Inv.uncomp {σ' : St} {H' : Hp} {s' : Shared} {h' : Heap} (I : Inv X pins σ H s) (hfp : ∀ b ∈ fp, FpOk X pins H b) (J : Inv (compCx X scope cl s.heap.objs.size s H fp x) [] σ' H' s') (hs : Heap.SameBut s.heap.objs.size s'.heap h') :
    Inv X pins σ H' { s' with heap := h' } := by
  have ne : ∀ {b : Addr} {o : Obj}, s.heap.get? b = some o → b ≠ s.heap.objs.size := fun e => Nat.ne_of_lt (Heap.lt_size e)
  have u := J.base
  have u' : Un (frs X.stack) fp H H' s.heap h' := ⟨fun b o e n hb hx => hs.extBut b o (ne e) (u.keep b o e n hb hx), fun b o e n hb hx => (u.slot b o e n hb hx).elim fun sl q => ⟨sl, hs.extBut b _ (ne e) q⟩, u.free,
    fun b o e hx => (u.there b o e hx).elim fun o' q => ⟨o', hs.extBut b o' (ne e) q⟩, u.tups, u.frzs, u.tbls⟩
  have nC : ∀ {b : Addr} {o : HO}, H' b = some o → b ≠ s.heap.objs.size := fun {b o} e z => by
    have f : H' s.heap.objs.size = none := J.free
    rw [z, f] at e; cases e
  have ok : HOk X.prog X.w H' h' := fun b o e => (J.hok b o e).stay (fun c v hc q => hs.extBut c v (by
    rcases hc with z | z
    · rw [z]; exact nC e
    · exact nC z) q) (fun _ q => q) fun _ _ q => q
  exact I.call' (s' := { s' with heap := h' }) (ch := fp) J.os u' ok J.bare fun b hb => ⟨(hfp b hb).2.2.2.1, (hfp b hb).2.1, (hfp b hb).2.2.2.2.1, (hfp b hb).2.2.2.2.2⟩
end
end L2
namespace L2
open PySem PySem.Spec PyProof.Rows
section
variable {X : Cx} {scope : Scope} {x : Str} {pins : List (Addr × Obj)} {σ : St} {elt iter : Expr} {px pos : Pos} {wi : TI} {te : TE}
theorem comp_block {s₂ : Shared} {H1 : Hp} {it : Addr} {fp : List Addr} {tn : Nat → Heap → Prop} {J : It} {Q : VK} {RR : Value → Addr → Result → Shared → Prop} {E : Value → Shared → Prop} {cl : List (Str × Addr)}
    (S : CompScope X scope x) (hc : X.calm = true) (he : ∀ cl C s₃ H₃ fp, PE (compCx X scope cl C s₃ H₃ fp x) elt te)
    (hcl : ∀ y c, cl.lookup y = some c → (y, NameKind.free) ∈ scope.names ∧ X.env.cells.lookup y = some c) (hcl2 : ∀ y, (y, NameKind.free) ∈ scope.names → cl.lookup y = X.env.cells.lookup y)
    (I2 : Inv X pins σ H1 s₂) (T : Turn X.prog X.w X.K (.Name x px) J fp it tn) (st2 : tn 0 s₂.heap) (f2 : ∀ b ∈ fp, FpOk X pins H1 b) (h : ∀ D H2, H1 D = none → Same H1 H2 → H2 D = some (.lst []) → CompW J te D σ H2 Q ⟨⟩)
    (hRR : ∀ (D C : Addr) (s' : Shared) (H' : Hp), (∃ m, s'.heap.Ns C m) → (∀ h' , Heap.SameBut C s'.heap h' → Inv X pins σ H' { s' with heap := h' }) → FpOk X pins H' C → Q (.ref D) H' → RR (.ref D) C (.ok .next) s') :
    wpAny (model X.prog X.w) X.A (newList []) (fun acc s₃ => wpAny (model X.prog X.w) X.A (newFunctionEnv scope X.env.globals cl [] X.env.qual none .none (some X.env)) (fun cenv s₄ =>
      codeAny (model X.prog X.w) X.A (.compStart (.ListComp elt [⟨.Name x px, iter, [], 0⟩] scope pos) 0 (.ref it) acc { cenv with scope := relabel scope X.env }) (RR acc cenv.locals) s₄) E s₃) E s₂ := by
  have hfr : H1 s₂.heap.objs.size = none := I2.hok.fresh (Nat.le_refl _)
  have hCW := h s₂.heap.objs.size _ hfr (Same.upd hfr) upd_same
  refine wpAny_newObj_type ?_
  have I3 : Inv X pins σ (upd H1 s₂.heap.objs.size (.lst [])) { s₂ with heap := s₂.heap.push { cls := .type "list", data := .seq ([] : List Value).toArray }, toks := s₂.toks } :=
    I2.laid (t' := s₂.toks) (fun b u e => Heap.get?_push_of_some _ e) (Nat.le_refl _) ⟨Nat.zero_le _, [], 0, .nil, Heap.get?_push_size _ rfl⟩
  have nD : ∀ b ∈ fp, b ≠ s₂.heap.objs.size := fun b hb => by
    obtain ⟨o, e, _⟩ := T.obj 0 _ st2 b hb
    exact Nat.ne_of_lt (Heap.lt_size e)
  have f3 : ∀ b ∈ fp, FpOk X pins (upd H1 s₂.heap.objs.size (.lst [])) b := fun b hb => ⟨by rw [upd_ne (nD b hb)]; exact (f2 b hb).1, (f2 b hb).2⟩
  generalize hH3 : upd H1 s₂.heap.objs.size (.lst []) = H3 at *
  have st3 : tn 0 (s₂.heap.push { cls := .type "list", data := .seq ([] : List Value).toArray }) := T.keep _ _ _ st2 fun b _ o e => Heap.get?_push_of_some _ e
  have hlt3 : ∀ b ∈ fp, b < (s₂.heap.push { cls := .type "list", data := .seq ([] : List Value).toArray }).objs.size := fun b hb => by
    obtain ⟨o, e, _⟩ := T.obj 0 _ st3 b hb
    exact Heap.lt_size e
  show wpAny (model X.prog X.w) X.A (newFunctionEnv scope X.env.globals cl [] X.env.qual none .none (some X.env)) _ E { s₂ with heap := s₂.heap.push { cls := .type "list", data := .seq ([] : List Value).toArray }, toks := s₂.toks }
  generalize hs3 : ({ s₂ with heap := s₂.heap.push { cls := .type "list", data := .seq ([] : List Value).toArray }, toks := s₂.toks } : Shared) = s₃ at *
  have eh : s₃.heap = s₂.heap.push { cls := .type "list", data := .seq ([] : List Value).toArray } := by rw [← hs3]
  rw [← eh] at st3 hlt3
  generalize s₂.heap.objs.size = D at *
  refine wpAny_newFunctionEnv S.nocell (by intro y hy; simp at hy) (fun h₁ hns₁ hsb₁ => ?_) S.kind
  have hk1 : ∀ b o, s₃.heap.get? b = some o → h₁.get? b = some o := fun b o e => hsb₁.extBut b o (Nat.ne_of_lt (Heap.lt_size e)) (Heap.get?_push_of_some _ e)
  have J0 : Inv (compCx X scope cl s₃.heap.objs.size s₃ H3 fp x) [] (none :: σ) H3 { s₃ with heap := h₁, toks := s₃.toks + ([] : List (Str × Value)).length } := I3.comp S hcl hcl2 f3 hlt3 hns₁ hk1 rfl rfl
  obtain ⟨n0, W, w0, turn⟩ := hCW
  have loop : codeAny (model X.prog X.w) X.A (.compLoop (.ListComp elt [⟨.Name x px, iter, [], 0⟩] scope pos) 0 (.ref it) (.ref D) (compEnvC scope cl s₃.heap.objs.size X.env)) (RR (.ref D) s₃.heap.objs.size) { s₃ with heap := h₁, toks := s₃.toks + ([] : List (Str × Value)).length } := by
    refine codeAny_loop rfl (fun n s' => ∃ i ys o H', Inv (compCx X scope cl s₃.heap.objs.size s₃ H3 fp x) [] (o :: σ) H' s' ∧ tn i s'.heap ∧ (∀ b ∈ fp, H' b = none) ∧ W i ys H' ∧ i ≤ n0 ∧ n = n0 - i) (fun n s5 hI => ?_) n0
      ⟨0, [], none, H3, J0, T.keep _ _ _ st3 (fun b _ o e => hk1 b o e), fun b hb => (f3 b hb).1, w0, Nat.zero_le _, rfl⟩
    obtain ⟨i, ys, o5, H5, I5, st5, fr5, w5, hin, hnn⟩ := hI
    have stat : ∀ {H' : Hp}, (∀ b ∈ fp, H' b = none) → ∀ b ∈ fp, FpOk (compCx X scope cl s₃.heap.objs.size s₃ H3 fp x) [] H' b := fun hn b hb =>
      ⟨hn b hb, Nat.ne_of_lt (hlt3 b hb), fun z => (List.mem_cons.mp (I3.stkSub b z)).elim (fun q => (f3 b hb).2.1 q) fun q => (f3 b hb).2.2.1 q, .inl hb, fun y c e => (f3 b hb).2.2.2.2.1 y c (hcl y c e).2, fun p hp => absurd (show p ∈ ([] : List (Addr × Obj)) from hp) (by simp)⟩
    show wpAny _ X.A ((compTurn (.ListComp elt [⟨.Name x px, iter, [], 0⟩] scope pos) 0 (.ref it) (.ref D) (compEnvC scope cl s₃.heap.objs.size X.env)).onRaise (fun x => do noteFrame x (compEnvC scope cl s₃.heap.objs.size X.env); theTreesLotGoes x)) _ _ s5
    refine wpAny_noted ?_
    rw [compTurn_list1]
    refine wpAny_bind (wpAny_standAt (wpAny_bind ?_))
    obtain ⟨hD5, alt⟩ := turn i ys H5 hin w5
    rcases alt with ⟨stop, q⟩ | ⟨hlt, go, hsz, step⟩
    · refine wpAny_mono (T.done (compCx X scope cl s₃.heap.objs.size s₃ H3 fp x) rfl rfl rfl hc i [] s5 _ H5 _ I5 (stat fr5) st5 stop) (fun r s6 ⟨hr, I6⟩ => ?_) fun _ _ z => z
      subst hr
      refine wpAny_pure ?_
      obtain ⟨m6, hn6, _⟩ := I6.loc
      exact hRR D s₃.heap.objs.size s6 H5 ⟨m6, hn6⟩ (fun h' hs' => I3.uncomp f3 I6 hs') (I3.fpOk (Nat.le_refl _) I6.free) q
    · refine wpAny_mono (T.item (compCx X scope cl s₃.heap.objs.size s₃ H3 fp x) rfl rfl rfl hc i [] s5 _ H5 _ I5 (stat fr5) st5 go) (fun r s6 ⟨u, hr, h6⟩ => ?_) fun _ _ z => z
      subst hr
      refine wpAny_bind (wpAny_mono h6 (fun _ s7 ⟨v, H7, I7, r7, y7, st7, fr7⟩ => ?_) fun _ _ z => z)
      have I7' := I7.pinned (stat fr7) (T.obj _ _ st7)
      have G := pg_name (X := compCx X scope cl s₃.heap.objs.size s₃ H3 fp x) (pos := px) (i := 0) (x := x) S.nd rfl (.inl (lookup_relabel_local S.own)) (.inr (lookup_relabel_local S.own))
      refine wpAny_bind (wpAny_mono (G _ s7 _ H7 v u (fun σ' H' => σ' = some v :: σ ∧ H' = H7) I7' r7 ⟨rfl, rfl⟩) (fun _ s8 hs8 => ?_) fun _ _ z => False.elim z)
      obtain ⟨σ8, H8, I8, rfl, rfl⟩ := hs8
      refine wpAny_bind (wpAny_bind (wpAny_mono (he cl s₃.heap.objs.size s₃ H3 fp _ s8 _ _ _ I8 (step v H8 y7)) (fun yv s9 hs9 => ?_) fun _ _ z => False.elim z))
      obtain ⟨y, H9, I9, r9, hD9, k9⟩ := hs9
      refine wpAny_bind (wpAny_mono (mt_append (X := compCx X scope cl s₃.heap.objs.size s₃ H3 fp x) _ s9 _ H9 (.ref D) [y] (.ref D) [yv] (fun _ H' => H' = upd H9 D (.lst (ys ++ [y]))) I9 rfl (.cons r9 .nil) ⟨D, ys, y, rfl, rfl, hD9, hsz, rfl⟩) (fun _ sA hsA => ?_) fun _ _ z => False.elim z)
      obtain ⟨_, HA, IA, _, rfl⟩ := hsA
      refine wpAny_pure ?_
      have wA := k9 _ SameB.upd upd_same
      refine wpAny_pure ⟨rfl, n0 - (i + 1), by omega, i + 1, ys ++ [y], some v, _, IA.unpinned (pins := []) (pl := pinsAt fp s7.heap), T.keep _ _ _ st7 (fun b hb o e => (IA.pin (b, o) (List.mem_append_right _ (List.mem_append_right _ (mem_pinsAt hb e)))).1), fun b hb => ?_, wA, hlt, rfl⟩
      obtain ⟨o, e, d⟩ := T.obj _ _ st7 b hb
      exact (IA.pin (b, o) (List.mem_append_right _ (List.mem_append_right _ (mem_pinsAt hb e)))).2.1
  exact codeAny_compStart_list loop (T.self _ 0 _ _ _ (T.keep _ _ _ st3 fun b _ o e => hk1 b o e) loop)
theorem pe_comp (hi : PI X (.Name x px) iter wi) (he : ∀ cl C s₃ H₃ fp, PE (compCx X scope cl C s₃ H₃ fp x) elt te) (S : CompScope X scope x) (hc : X.calm = true)
    (hs : ∀ x, foldedSetIterable iter X.env x = pure x := by intro _; rfl) : PE X (.ListComp elt [⟨.Name x px, iter, [], 0⟩] scope pos) (tComp wi te) := by
  intro pins s σ H Q I h
  obtain ⟨cl, hclos, hcl, hcl2⟩ := closure_of (env := X.env) (sc := scope) fun y hy => I.ok.has y (S.free _ hy rfl)
  rw [eval_ListComp]
  refine wpAny_comprehension_free (use := none) rfl hs hclos S.kind S.loc ?_
  refine thn (hi pins s σ H _ I h) fun v s1 h1 => thn h1 fun itv s2 h2 => ?_
  obtain ⟨it, fp, tn, J, H2, e, I2, T, st2, f2, hW⟩ := h2
  subst e
  exact comp_block (RR := fun acc C => compPost (model X.prog X.w) X.A X.xe none (EP X pins σ Q) acc C) S hc he hcl hcl2 I2 T st2 f2 hW fun D C s' H' hm hI _ hq =>
    hm.elim fun m hn => ⟨m, hn, fun h' hs' => ⟨.ref D, H', hI h' hs', rfl, hq⟩⟩
theorem ps_setC {i : Nat} {y : Str} {py spos : Pos} (hN : X.N.Nodup) (hyi : X.N[i]? = some y) (hy : X.env.scope.names.lookup y = some .local) (hi : PI X (.Name x px) iter wi) (he : ∀ cl C s₃ H₃ fp, PE (compCx X scope cl C s₃ H₃ fp x) elt te) (S : CompScope X scope x) (hc : X.calm = true)
    (hsw : swapsWith (.ListComp elt [⟨.Name x px, iter, [], 0⟩] scope pos) (some (.Name y py)) spos.line X.env = pure true := by rfl)
    (hs : ∀ x, foldedSetIterable iter X.env x = pure x := by intro _; rfl) : PS X (.Assign [.Name y py] (.ListComp elt [⟨.Name x px, iter, [], 0⟩] scope pos) spos) (tAsg (tComp wi te) (gName i)) := by
  intro pins s σ H D I h
  obtain ⟨cl, hclos, hcl, hcl2⟩ := closure_of (env := X.env) (sc := scope) fun y hy => I.ok.has y (S.free _ hy rfl)
  rw [exec_Assign_Name_used _ _ _ _ hsw]
  refine wpAny_bind (wpAny_standAt (wpAny_bind ?_))
  show wpAny _ X.A (do let _ ← comprehension (.ListComp elt [⟨.Name x px, iter, [], 0⟩] scope pos) scope X.env _ (newList []) false (eval iter X.env) (some (assign (.Name y py) X.env))) _ _ s
  refine wpAny_bind (wpAny_mono (wpAny_comprehension_free (use := some (assign (.Name y py) X.env)) (Q := fun _ s' => SP X pins D .next s') rfl hs hclos S.kind S.loc ?_) (fun _ s' hq => wpAny_pure (wpAny_pure hq)) fun _ _ e => e)
  refine thn (hi pins s σ H _ I h) fun v s1 h1 => thn h1 fun itv s2 h2 => ?_
  obtain ⟨it, fp, tn, J, H2, e, I2, T, st2, f2, hW⟩ := h2
  subst e
  refine comp_block (Q := fun v H' => D.nx (σ.set i (some v)) H') (RR := fun acc C => compPost (model X.prog X.w) X.A X.xe (some (assign (.Name y py) X.env)) (fun _ s' => SP X pins D .next s') acc C) S hc he hcl hcl2 I2 T st2 f2 hW fun L C s' H' hm hI hfp hq => ?_
  obtain ⟨m, hn⟩ := hm
  have I' : Inv X pins σ H' s' := hI s'.heap (Heap.SameBut.refl ..)
  show wpAny _ X.A (assign (.Name y py) X.env (.ref L)) _ _ s'
  refine wpAny_assign_Name (store_ok2 (v := .ref L) I' hN hyi (.inl hy) rfl (fun s'' I'' hsb => ?_) (.inr hy))
  obtain ⟨a, hsame, ha⟩ := hsb
  have nea : C ≠ a := by
    rcases ha with z | z
    · rw [z]; exact hfp.2.1
    · exact fun q => hfp.2.2.2.2.1 y a z q.symm
  refine ⟨m, hn.sameBut hsame nea, fun h' hs' => ⟨_, H', I''.turned (t' := s''.toks) (it := C) (fun b o hb e => hs'.extBut b o hb e) hfp.1 hfp.2.1 hfp.2.2.2.1 hfp.2.2.2.2.1 hfp.2.2.2.2.2, hq⟩⟩
end
theorem compW_list {K : PySem.W.Frag} {a D : Addr} {xs : List V} {te : TE} {σ : St} {H : Hp} {Q : VK} (Pv : Nat → List V → Hp → Prop) (h0 : Pv 0 [] H) (hsz : xs.length ≤ sizeLine)
    (hD : ∀ i ys H, i ≤ xs.length → Pv i ys H → H D = some (.lst ys) ∧ SqL K H a xs ∧ ys.length = i)
    (hs : ∀ i x ys H, xs[i]? = some x → Pv i ys H → te (some x :: σ) H fun y H2 => H2 D = some (.lst ys) ∧ ∀ H3, SameB D H2 H3 → H3 D = some (.lst (ys ++ [y])) → Pv (i + 1) (ys ++ [y]) H3)
    (hd : ∀ ys H, Pv xs.length ys H → Q (.ref D) H) : CompW (Itl K a) te D σ H Q ⟨⟩ := by
  refine ⟨xs.length, Pv, h0, fun i ys H hi p => ?_⟩
  obtain ⟨e1, e2, e3⟩ := hD i ys H hi p
  refine ⟨e1, ?_⟩
  by_cases hlt : i < xs.length
  · refine .inr ⟨hlt, ⟨xs, xs[i], e2, by simp [hlt]⟩, by omega, fun x H' y => ?_⟩
    obtain ⟨e, y⟩ := y
    subst e
    exact hs i x ys _ (y xs e2) p
  · have e : i = xs.length := by omega
    subst e
    exact .inl ⟨⟨xs, e2, Nat.le_refl _⟩, hd ys H p⟩
theorem compW_range {D : Addr} {lo : Int} {n : Nat} {te : TE} {σ : St} {H : Hp} {Q : VK} (Pv : Nat → List V → Hp → Prop) (h0 : Pv 0 [] H) (hsz : n ≤ sizeLine)
    (hD : ∀ i ys H, i ≤ n → Pv i ys H → H D = some (.lst ys) ∧ ys.length = i)
    (hs : ∀ i ys H, i < n → Pv i ys H → te (some (.int (lo + i)) :: σ) H fun y H2 => H2 D = some (.lst ys) ∧ ∀ H3, SameB D H2 H3 → H3 D = some (.lst (ys ++ [y])) → Pv (i + 1) (ys ++ [y]) H3)
    (hd : ∀ ys H, Pv n ys H → Q (.ref D) H) : CompW (Itr lo n) te D σ H Q ⟨⟩ := by
  refine ⟨n, Pv, h0, fun i ys H hi p => ?_⟩
  obtain ⟨e1, e3⟩ := hD i ys H hi p
  refine ⟨e1, ?_⟩
  by_cases hlt : i < n
  · refine .inr ⟨hlt, hlt, by omega, fun x H' y => ?_⟩
    obtain ⟨e, y⟩ := y
    subst e y
    exact hs i ys _ hlt p
  · have e : i = n := by omega
    subst e
    exact .inl ⟨Nat.le_refl _, hd ys H p⟩
theorem Same.step {D : Addr} {H0 H H' : Hp} (S : Same H0 H) (n : H0 D = none) (s : SameB D H H') : Same H0 H' := fun b o e => s b o (ne_of_none e n) (S b o e)
theorem compW_map {K : PySem.W.Frag} {a D : Addr} {xs : List V} {te : TE} {σ : St} {H0 H : Hp} {Q : VK} (g : V → V) (n0 : H0 D = none) (S : Same H0 H) (hD : H D = some (.lst [])) (hS : SqL K H0 a xs) (hsz : xs.length ≤ sizeLine)
    (hs : ∀ (i : Nat) x H' (Q' : VK), xs[i]? = some x → Same H0 H' → Q' (g x) H' → te (some x :: σ) H' Q') (q : ∀ H', Same H0 H' → H' D = some (.lst (xs.map g)) → Q (.ref D) H') : CompW (Itl K a) te D σ H Q ⟨⟩ := by
  refine compW_list (fun i ys H' => Same H0 H' ∧ H' D = some (.lst ys) ∧ ys = (xs.take i).map g) ⟨S, hD, by simp⟩ hsz (fun i ys H' hi p => ?_) (fun i x ys H' hx p => ?_) (fun ys H' p => ?_)
  · refine ⟨p.2.1, p.1.seq hS, ?_⟩
    rw [p.2.2, List.length_map, List.length_take]
    omega
  · refine hs i x H' _ hx p.1 ⟨p.2.1, fun H3 s3 h3 => ⟨p.1.step n0 s3, h3, ?_⟩⟩
    have hi : i < xs.length := (List.getElem?_eq_some_iff.mp hx).1
    rw [p.2.2, List.take_add_one, hx, List.map_append]
    rfl
  · refine q H' p.1 ?_
    rw [p.2.1, p.2.2, List.take_length]
theorem compW_mapR {D : Addr} {lo : Int} {n : Nat} {te : TE} {σ : St} {H0 H : Hp} {Q : VK} (g : Nat → V) (n0 : H0 D = none) (S : Same H0 H) (hD : H D = some (.lst [])) (hsz : n ≤ sizeLine)
    (hs : ∀ (i : Nat) H' (Q' : VK), i < n → Same H0 H' → Q' (g i) H' → te (some (.int (lo + i)) :: σ) H' Q') (q : ∀ H', Same H0 H' → H' D = some (.lst ((List.range n).map g)) → Q (.ref D) H') : CompW (Itr lo n) te D σ H Q ⟨⟩ := by
  refine compW_range (fun i ys H' => Same H0 H' ∧ H' D = some (.lst ys) ∧ ys = (List.range i).map g) ⟨S, hD, by simp⟩ hsz (fun i ys H' hi p => ?_) (fun i ys H' hx p => ?_) (fun ys H' p => ?_)
  · refine ⟨p.2.1, ?_⟩
    rw [p.2.2, List.length_map, List.length_range]
  · refine hs i H' _ hx p.1 ⟨p.2.1, fun H3 s3 h3 => ⟨p.1.step n0 s3, h3, ?_⟩⟩
    rw [p.2.2, List.range_succ, List.map_append]
    rfl
  · refine q H' p.1 ?_
    rw [p.2.1, p.2.2]
def compOk (sc scope : Scope) (x : Str) (N : List Str) : Bool :=
  (scope.kind == .function) && scope.names.all (fun y => y.2 != .cell) && scope.names.all (fun y => y.2 != .local || scope.names.lookup y.1 == some .local) && (scope.names.lookup x == some .local) &&
  scope.names.all (fun y => y.2 != .free || (sc.names.lookup y.1 == some .cell || sc.names.lookup y.1 == some .free)) && decide ((x :: mask x N).Nodup) && scope.names.all (fun y => y.1 != "") && (mask x N).all (fun y => scope.names.lookup y != some .local)
theorem compS {X : Cx} {sc scope : Scope} {x : Str} {N : List Str} (hsc : X.env.scope = sc) (hN : X.N = N) (h : compOk sc scope x N = true) : CompScope X scope x := by
  subst hN hsc
  unfold compOk at h
  simp only [Bool.and_eq_true, List.all_eq_true, beq_iff_eq, Bool.or_eq_true, bne_iff_ne, ne_eq, decide_eq_true_eq] at h
  obtain ⟨⟨⟨⟨⟨⟨⟨h1, h2⟩, h3⟩, h4⟩, h5⟩, h6⟩, h7⟩, h8⟩ := h
  exact ⟨h1, h2, fun y hy e => (h3 y hy).resolve_left fun z => z e, h4, fun y hy e => (h5 y hy).resolve_left fun z => z e, h6, h7, h8⟩
end L2
namespace L2
open PySem PySem.Spec PyProof.Rows
def isLst : V → Hp → Bool := fun x H => match x with
  | .ref l => (match H l with
    | some (.lst _) => true
    | _ => false)
  | _ => false
def isStrV : V → Hp → Bool := fun x _ => match x with
  | .str _ => true
  | _ => false
theorem isLst_ty {K : PySem.W.Frag} : ∀ x H, isLst x H = true → tyV K "list" x H := fun x H h => by
  cases x with
  | ref l =>
    have h' : (match H l with
      | some (.lst _) => true
      | _ => false) = true := h
    split at h'
    · rename_i xs e
      exact .inl ⟨rfl, xs, SqL.of e⟩
    · cases h'
  | _ => cases h
theorem isStrV_ty {K : PySem.W.Frag} : ∀ x H, isStrV x H = true → tyV K "str" x H := fun x H h => by
  cases x with
  | str z => exact rfl
  | _ => cases h
def tBMF (chk : V → Hp → Bool) (r : V → List V → Hp → VK → Prop) (to : TE) (t : TA) : TE := fun σ H Q => to σ H fun x H1 => chk x H1 = true ∧ t σ H1 fun xs H2 => r x xs H2 Q
section
variable {X : Cx} {o e : Expr} {es : List Expr} {to : TE} {t : TA} {name : Str} {apos cpos : Pos} {T id : String} {r r' : V → List V → Hp → VK → Prop} {chk : V → Hp → Bool}
theorem MtR.weak (h : MtR X id r) (q : ∀ x xs H Q, r' x xs H Q → r x xs H Q) : MtR X id r' := fun pins s σ H x xs v us Q I rx rs hr => h pins s σ H x xs v us Q I rx rs (q x xs H Q hr)
theorem pe_bmF (hchk : ∀ x H, chk x H = true → tyV X.K T x H) (pa : PlainAttrs T) (slot : Slot T name id) (hty : typeOf (.builtin id) = pure (.type "method_descriptor")) (hm : MtR X id r) (ho : PE X o to) (ha : PA X (e :: es) t)
    (hbase : attributeBase o name X.env (eval o X.env) = eval o X.env := by rfl)
    (hfew : ((backTo cpos (starEach (e :: es) X.env)).all (fun x => !x.1) && (backToKw cpos (keywordEach [] X.env)).all (fun x => x.1.isSome)
      && decide ((e :: es).length + ([] : List Keyword).length + (if ([] : List Keyword).isEmpty then 0 else 1) < 30)) = true := by rfl)
    (hline : (apos.endLine == cpos.line) = true := by rfl) (hs : starEach (e :: es) X.env = (false, eval e X.env) :: starEach es X.env := by rfl) (hplain : (backTo cpos (starEach es X.env)).any (·.1) = false := by rfl) :
    PE X (.Call (.Attribute o name apos) (e :: es) [] cpos) (tBMF chk r to t) := by
  intro pins s σ H Q I h
  refine wpAny_Call_method_late hbase hfew hline rfl (thn (ho pins s σ H _ I h) fun v s1 ⟨x, H1, I1, r1, ty, q1⟩ => ?_)
  obtain ⟨h1, h2⟩ := tyV_is I1 r1 (hchk x H1 ty)
  refine ⟨T, id, pa, slot, hty, h1, h2, ?_⟩
  have hA := ha cpos pins s1 σ H1 _ I1 q1
  rw [hs] at hA ⊢
  refine Calls.callWith_builtin (by show (false || (backTo cpos (starEach es X.env)).any (·.1)) = false; rw [hplain] <;> rfl) (Calls.evalArgs_plain ?_)
  exact thn hA fun us s2 ⟨vs, H2, I2, r2, q2⟩ => hm pins s2 σ H2 x vs v us Q I2 r1 r2 q2
def rAppF : V → List V → Hp → VK → Prop := fun x vs H Q => match x, vs with
  | .ref l, [y] => (match H l with
    | some (.lst xs) => xs.length < sizeLine ∧ All (fun v H1 => v = .non ∧ SameB l H H1 ∧ H1 l = some (.lst (xs ++ [y]))) Q ⟨⟩ ⟨⟩
    | _ => False)
  | _, _ => False
theorem mt_appendF : MtR X "list.append" rAppF := MtR.weak (r := rAppend) mt_append fun x vs H Q h => by
  match x, vs, h with
  | .ref l, [y], h =>
    have h' : (match H l with
      | some (.lst xs) => xs.length < sizeLine ∧ All (fun v H1 => v = .non ∧ SameB l H H1 ∧ H1 l = some (.lst (xs ++ [y]))) Q ⟨⟩ ⟨⟩
      | _ => False) := h
    split at h'
    · rename_i xs e
      exact ⟨l, xs, y, rfl, rfl, e, h'.1, h'.2 _ _ ⟨rfl, SameB.upd, upd_same⟩⟩
    · exact h'.elim
end
def cutG {α : Type} (xs : List α) (lo hi : Option Int) : List α := (xs.drop (HT.sIx xs.length 0 lo)).take (HT.sIx xs.length xs.length hi - HT.sIx xs.length 0 lo)
theorem cutG_map {α β : Type} (f : α → β) (xs : List α) (lo hi : Option Int) : cutG (xs.map f) lo hi = (cutG xs lo hi).map f := by
  unfold cutG
  rw [List.length_map, List.map_take, List.map_drop]
theorem cutV_ints (ns : List Int) (lo hi : Option Int) : cutV (ns.map V.int) lo hi = (cutG ns lo hi).map V.int := cutG_map V.int ns lo hi
theorem mem_cutG {α : Type} {xs : List α} {lo hi : Option Int} {x : α} (h : x ∈ cutG xs lo hi) : x ∈ xs := List.mem_of_mem_drop (List.mem_of_mem_take h)
theorem cutG_len {α : Type} (xs : List α) (lo hi : Option Int) : (cutG xs lo hi).length ≤ xs.length := by
  unfold cutG
  rw [List.length_take, List.length_drop]
  omega
theorem cutG_from {α : Type} (xs : List α) (a : Nat) : cutG xs (some (a : Int)) none = xs.drop a := by
  unfold cutG
  rw [HT.sIx_nat, HT.sIx_none]
  by_cases h : a ≤ xs.length
  · rw [Nat.min_eq_left h, List.take_of_length_le (by rw [List.length_drop] <;> exact Nat.le_refl _)]
  · rw [Nat.min_eq_right (by omega), List.drop_length, List.drop_of_length_le (by omega)]
    simp
theorem cutG_part {α : Type} (xs : List α) (a l : Nat) : cutG xs (some (a : Int)) (some ((a : Int) + (l : Int))) = (xs.drop a).take l := by
  unfold cutG
  rw [show ((a : Int) + (l : Int)) = ((a + l : Nat) : Int) by omega, HT.sIx_nat, HT.sIx_nat]
  by_cases h : a ≤ xs.length
  · rw [Nat.min_eq_left h]
    by_cases h2 : a + l ≤ xs.length
    · rw [Nat.min_eq_left h2, Nat.add_sub_cancel_left]
    · rw [Nat.min_eq_right (by omega), List.take_of_length_le (by rw [List.length_drop]; exact Nat.le_refl _), List.take_of_length_le (by rw [List.length_drop]; omega)]
  · have e1 : min a xs.length = xs.length := Nat.min_eq_right (by omega)
    have e2 : min (a + l) xs.length = xs.length := Nat.min_eq_right (by omega)
    rw [e1, e2, List.drop_length, List.drop_of_length_le (show xs.length ≤ a by omega)]
    simp
theorem cutG_upto {α : Type} (xs : List α) (a : Nat) : cutG xs none (some (a : Int)) = xs.take a := by
  unfold cutG
  rw [HT.sIx_nat, HT.sIx_none, List.drop_zero, Nat.sub_zero]
  by_cases h : a ≤ xs.length
  · rw [Nat.min_eq_left h]
  · rw [Nat.min_eq_right (by omega), List.take_length, List.take_of_length_le (by omega)]
end L2
namespace L2
theorem opaqN (F : Nat → St → Hp → Prop) : ∃ Pv : Nat → St → Hp → Prop, (∀ i σ H, F i σ H → Pv i σ H) ∧ ∀ i σ H, Pv i σ H → F i σ H := ⟨F, fun _ _ _ h => h, fun _ _ _ h => h⟩
theorem opaq (F : St → Hp → Prop) : ∃ Pv : St → Hp → Prop, (∀ σ H, F σ H → Pv σ H) ∧ ∀ σ H, Pv σ H → F σ H := ⟨F, fun _ _ h => h, fun _ _ h => h⟩
end L2

namespace L2
open PySem PySem.Spec PyProof.Rows
open PySem.Builtin.Int (intBits)
section
variable {X : Cx}
def rSumF : List V → Hp → VK → Prop := fun xs H Q => match xs with
  | [.ref p] => (match H p with
    | some (.lst ys) => ∃ ns : List Int, ys = ns.map V.int ∧ Q (.int ns.sum) H
    | _ => False)
  | _ => False
end
def chainW (g : TG) (tb : TS) (D : Ends) : Nat → Int → St → Hp → Prop
  | 0, _, σ, H => D.nx σ H
  | k + 1, x, σ, H => g (.int x) σ H fun σ2 H2 => tb { D with nx := chainW g tb D k (x + 1), ct := chainW g tb D k (x + 1), bk := D.nx } σ2 H2
def Stop (p : Prop) (_ : Tag p) : Prop := p
theorem Stop.go {p : Prop} {t : Tag p} (h : p) : Stop p t := h
def tPause (t u : TS) : TS := fun D σ H => t { D with nx := fun σ' H' => Stop (u D σ' H') ⟨⟩ } σ H
theorem pss_pause {X : Cx} {st : Stmt} {rest : List Stmt} {t u : TS} (h1 : PS X st t) (h2 : PSs X rest u) : PSs X (st :: rest) (tPause t u) := pss_cons h1 h2
def Hs (H : Hp) (fs : List (Addr × HO)) : Prop := (fs.map (·.1)).Nodup ∧ ∀ p ∈ fs, H p.1 = some p.2
def HsC (H : Hp) : List (Addr × HO) → Prop
  | [] => True
  | (a, o) :: r => H a = some o ∧ HsC H r
theorem Hs.nil {H : Hp} : Hs H [] := ⟨List.nodup_nil, fun _ h => nomatch h⟩
theorem Hs.same {H H' : Hp} {fs : List (Addr × HO)} (F : Hs H fs) (S : Same H H') : Hs H' fs := ⟨F.1, fun p hp => S _ _ (F.2 p hp)⟩
theorem Hs.fresh {H : Hp} {fs : List (Addr × HO)} {a : Addr} (F : Hs H fs) (n : H a = none) : a ∉ fs.map (·.1) := fun h => by
  obtain ⟨p, hp, e⟩ := List.mem_map.mp h
  have := F.2 p hp
  rw [e, n] at this
  cases this
theorem Hs.new {H H' : Hp} {fs : List (Addr × HO)} {a : Addr} {o : HO} (F : Hs H fs) (n : H a = none) (S : Same H H') (h : H' a = some o) : Hs H' ((a, o) :: fs) := by
  refine ⟨?_, fun p hp => ?_⟩
  · rw [List.map_cons, List.nodup_cons]
    exact ⟨F.fresh n, F.1⟩
  · rcases List.mem_cons.mp hp with rfl | hp
    · exact h
    · exact S _ _ (F.2 p hp)
theorem Hs.get {H : Hp} : ∀ {fs : List (Addr × HO)}, Hs H fs → HsC H fs
  | [], _ => trivial
  | (a, o) :: r, F => ⟨F.2 (a, o) List.mem_cons_self, Hs.get ⟨(List.nodup_cons.mp F.1).2, fun p hp => F.2 p (List.mem_cons_of_mem _ hp)⟩⟩
theorem Hs.drop {H : Hp} {l r : List (Addr × HO)} (F : Hs H (l ++ r)) : Hs H r := ⟨(List.nodup_append.mp (by rw [← List.map_append]; exact F.1)).2.1, fun p hp => F.2 p (List.mem_append_right _ hp)⟩
theorem atI_n {ns : List Int} {i : Nat} (h : i < ns.length) : atI (ns.map V.int) (i : Int) = some (.int (ns.getD i 0)) := by
  refine atI_nat ?_
  rw [List.getElem?_map, List.getElem?_eq_getElem h, List.getD_eq_getElem?_getD, List.getElem?_eq_getElem h]
  rfl
def Blks (H : Hp) (cs : List Addr) (bs : List (List Int)) : Prop := cs.length = bs.length ∧ ∀ (i : Nat) c b, cs[i]? = some c → bs[i]? = some b → H c = some (.lst (b.map V.int))
theorem Blks.same {H H' : Hp} {cs : List Addr} {bs : List (List Int)} (h : Blks H cs bs) (s : Same H H') : Blks H' cs bs := ⟨h.1, fun i c b e1 e2 => s _ _ (h.2 i c b e1 e2)⟩
theorem Blks.get {H : Hp} {cs : List Addr} {bs : List (List Int)} (h : Blks H cs bs) {i : Nat} {c : Addr} (e : cs[i]? = some c) : ∃ b, bs[i]? = some b ∧ H c = some (.lst (b.map V.int)) := by
  have hi : i < cs.length := (List.getElem?_eq_some_iff.mp e).1
  have hb : i < bs.length := by rw [← h.1]; exact hi
  exact ⟨bs[i], by simp [hb], h.2 i c _ e (by simp [hb])⟩

theorem Blks.snoc {H : Hp} {cs : List Addr} {bs : List (List Int)} {c : Addr} {b : List Int} (h : Blks H cs bs) (hc : H c = some (.lst (b.map V.int))) : Blks H (cs ++ [c]) (bs ++ [b]) := by
  refine ⟨by rw [List.length_append, List.length_append, h.1]; rfl, fun i c' b' e1 e2 => ?_⟩
  by_cases hi : i < cs.length
  · rw [List.getElem?_append_left hi] at e1
    rw [List.getElem?_append_left (by rw [← h.1]; exact hi)] at e2
    exact h.2 i c' b' e1 e2
  · rw [List.getElem?_append_right (by omega)] at e1
    rw [List.getElem?_append_right (by rw [← h.1]; omega)] at e2
    rw [← h.1] at e2
    cases hz : i - cs.length with
    | zero =>
      rw [hz] at e1 e2
      simp at e1 e2
      subst e1 e2
      exact hc
    | succ n =>
      rw [hz] at e1
      simp at e1
theorem Blks.sameB {H H' : Hp} {x : Addr} {cs : List Addr} {bs : List (List Int)} (h : Blks H cs bs) (s : SameB x H H') (hx : x ∉ cs) : Blks H' cs bs :=
  ⟨h.1, fun i c b e1 e2 => s _ _ (fun z => hx (z ▸ List.mem_of_getElem? e1)) (h.2 i c b e1 e2)⟩
def dB (bs : List (List Int)) : PySem.W.Dat := .list (bs.map fun b => .list (b.map .int))
theorem Blks.two {H : Hp} {a b : Addr} {x y : List Int} (ha : H a = some (.lst (x.map V.int))) (hb : H b = some (.lst (y.map V.int))) : Blks H [a, b] [x, y] := by
  refine ⟨rfl, fun i c d e1 e2 => ?_⟩
  match i, e1, e2 with
  | 0, e1, e2 => cases e1; cases e2; exact ha
  | 1, e1, e2 => cases e1; cases e2; exact hb
  | i + 2, e1, e2 => simp at e1
def FreshL (H : Hp) (xs : List V) (v : V) (H' : Hp) : Prop := ∃ b, v = .ref b ∧ H b = none ∧ Same H H' ∧ H' b = some (.lst xs)
def FreshT (H : Hp) (xs : List V) (v : V) (H' : Hp) : Prop := ∃ b, v = .ref b ∧ H b = none ∧ Same H H' ∧ H' b = some (.tup xs)
def ratV (q : Rat) : List V := [.int q.num, .int (q.den : Nat)]
end L2

namespace L2
open PySem PySem.Spec PyProof.Rows
def CXE (P : Program) (w : World) : CXT := fun outer H s E e s' => ∃ (a : Addr) (C a0 : Value) (B : Heap) (H' : Hp), e = .ref a ∧ Heap.FlyingW B outer a C a0 s'.heap ∧ s'.os = s.os ∧ AllBare s'.gens ∧
  (∀ h', B.StaysIn h' → s'.heap.UpToSlots h' → Un (frs outer) [] H H' s.heap h' ∧ HOk P w H' h') ∧ H' a = none ∧ s.heap.get? a = none ∧ E C none H'
theorem ObjOk.obj {P : Program} {w : World} {H : Hp} {h : Heap} {a : Addr} {o : HO} (x : ObjOk P w H h a o) : ∃ u, h.get? a = some u := by
  cases o with
  | lst xs => obtain ⟨_, _, _, _, e⟩ := x; exact ⟨_, e⟩
  | tup xs => obtain ⟨_, _, _, ob, e, _⟩ := x; exact ⟨_, e⟩
  | dK kvs => obtain ⟨_, _, _, _, o, _, _, e, _⟩ := x; exact ⟨_, e⟩
  | dT kvs => obtain ⟨_, _, _, _, o, _, _, e, _⟩ := x; exact ⟨_, e⟩
  | set S n => obtain ⟨o, _, _, _, e, _⟩ := x; exact ⟨_, e⟩
  | ins C dx fs => obtain ⟨_, _, _, e, _⟩ := x; exact ⟨_, e⟩
  | own y => obtain ⟨_, e⟩ := x; exact ⟨_, e⟩
  | xd fs => obtain ⟨_, ⟨_, _, _, e, _⟩, _⟩ := x; exact ⟨_, e⟩
  | rng lo hi => obtain ⟨_, _, _, e⟩ := x; exact ⟨_, e⟩
  | frz ob u => obtain ⟨e, _⟩ := x; exact ⟨_, e⟩
  | tbl ps => exact ⟨_, (show h.get? a = some _ from x)⟩
  | met f y => exact ⟨_, (show h.get? a = some _ from x)⟩
  | ext φ => obtain ⟨_, ⟨_, e⟩, _⟩ := x; exact ⟨_, e⟩
section
variable {X : Cx} {pins : List (Addr × Obj)} {σ : St} {H : Hp} {s : Shared}
theorem Inv.caught {H' : Hp} {s' : Shared} {h' : Heap} {t' : Nat} (I : Inv X pins σ H s) (os : s'.os = s.os) (bare : AllBare s'.gens) (u : Un (frs X.stack) [] H H' s.heap h') (hok : HOk X.prog X.w H' h') : Inv X pins σ H' { s' with heap := h', toks := t' } := by
  obtain ⟨hh, g, d, t, os'⟩ := s'
  obtain rfl : os' = s.os := os
  exact Inv.call (s := s) (h' := h') (g' := g) (d' := d) (t' := t') (ch := []) I u hok bare (fun b z => absurd z (by simp))
theorem Inv.track {a : Addr} {o : HO} (I : Inv X pins σ H s) (h1 : X.s₀.heap.get? a = none) (h2 : a ≠ X.env.locals) (h3 : ∀ x c, X.env.cells.lookup x = some c → c ≠ a) (h4 : ∀ p ∈ X.pn ++ pins, p.1 ≠ a) (hH : H a = none)
    (new : ObjOk X.prog X.w (upd H a o) s.heap a o) : Inv X pins σ (upd H a o) s := by
  refine ⟨I.ok, I.os, I.bare, ⟨I.base.keep, I.base.slot, fun b u q n hx => ?_, I.base.there, fun b xs q => ?_, fun b u xs q => ?_, fun b ps q => ?_⟩, I.loc, I.cell, ?_, fun x c e => ?_, fun p hp => ?_, fun b u e => ?_, I.len⟩
  · rw [upd_ne (fun z => by rw [z, h1] at q; cases q)]
    exact I.base.free b u q n hx
  · have z := I.base.tups b xs q
    rw [upd_ne (ne_of_none z hH)]
    exact z
  · have z := I.base.frzs b u xs q
    rw [upd_ne (ne_of_none z hH)]
    exact z
  · obtain ⟨m, z⟩ := I.base.tbls b ps q
    exact ⟨m, by rw [upd_ne (ne_of_none z hH)]; exact z⟩
  · rw [upd_ne h2.symm]
    exact I.free
  · rw [upd_ne (h3 x c e)]
    exact I.freeC x c e
  · obtain ⟨e, n, ne, nf, d⟩ := I.pin p hp
    exact ⟨e, by rw [upd_ne (h4 p hp)]; exact n, ne, nf, d⟩
  · by_cases hb : b = a
    · subst hb
      rw [upd_same] at e
      cases e
      exact new
    · rw [upd_ne hb] at e
      exact (I.hok b u e).stay (fun _ _ _ q => q) (fun c q => by rw [upd_ne (ne_of_none q hH)]; exact q) fun c xs q => by rw [upd_ne (ne_of_none q hH)]; exact q
def TakesM (X : Cx) (E : XK) : Prop := ∀ (pins : List (Addr × Obj)) (σ : St) (H : Hp) (s : Shared) (e C : Addr) (args : List Value) (h' : Heap), Inv X pins σ H s → Heap.MadeExcOf s.heap h' e (.ref C) args → E (.ref C) none H → X.xe (.ref e) { s with heap := h' }
end
section
variable {P : Program} {w : World} {K : PySem.W.Frag} {mg : Str → Option Value} {base : Heap} {N : List Str} {qual : Str} {scope : Scope} {f : Addr} {cd : Value} {A : Around} {outer : List Env} {s : Shared} {H : Hp} {E : XK}
end
theorem FnOk.or {P : Program} {w : World} {K : PySem.W.Frag} {mg : Str → Option Value} {base : Heap} {k : Nat} {f : Addr} {fd : FuncData} {ps : List Str} {sp sp' : Sp} (F : FnOk P w K mg base CX0 k f fd ps sp) (G : FnOk P w K mg base (CXE P w) k f fd ps sp') :
    FnOk P w K mg base (CXE P w) k f fd ps (fun vs H Q E => sp vs H Q E ∨ sp' vs H Q E) := by
  refine ⟨fun vs H Q E h => h.elim (F.len vs H Q E) (G.len vs H Q E), fun A outer s H args us vs Q E hr e0 hb hv h => ?_⟩
  rcases h with h | h
  · refine codeAny_mono (F.run A outer s H args us vs Q E hr e0 hb hv h) fun r s' q => ?_
    cases r with
    | error e => exact False.elim q
    | ok fl => cases fl <;> exact q
  · exact G.run A outer s H args us vs Q E hr e0 hb hv h
abbrev vE : List Value := [.type "ValueError", .type "Exception", .type "BaseException", .type "object"]
structure Exc (K : PySem.W.Frag) (C : Addr) : Prop where
  ok : PySem.W.excIn K C vE "ValueError.__new__" = true
section
variable {X : Cx} {e₀ : Expr} {rest : List Expr} {t : TA} {x : Str} {C : Addr} {E : XK} {np cpos pos : Pos}
def tRaise (C : Addr) (E : XK) (t : TA) : TS := fun _ σ H => t σ H fun vs H1 => vs.length ≤ sizeLine ∧ E (.ref C) none H1
end
structure ExcQ (K : PySem.W.Frag) (C : Addr) : Prop where
  ga : PySem.W.findIn K (.ref C) "__getattribute__" = some (some (.builtin "BaseException.__getattribute__"))
  cl : PySem.W.findIn K (.ref C) "__class__" = some (some (.builtin "object.__class__"))
  ng : PySem.W.findIn K (.ref C) "__getattr__" = some none
  so : PySem.W.subIn K (.ref C) (.type "object") = some true
  sb : PySem.W.subIn K (.ref C) (.type "BaseException") = some true
  ty : PySem.W.typeIn K (.ref C) = some (.type "type")
  ic : PySem.W.isClsIn K C = true
  ss : PySem.W.subIn K (.ref C) (.ref C) = some true
section
variable {prog : Program} {w : World} {A : Around} {E : Value → Shared → Prop} {h : Heap} {g : Array GenState} {d : Drawn} {t : Nat} {os : OsState} {a C : Addr} {o : Obj} {K : PySem.W.Frag}
end
def excO (a : Addr) (C : Value) : HO := .ext fun h => ∃ o, h.get? a = some o ∧ o.cls = C
section
variable {X : Cx}
def rIsX (K : PySem.W.Frag) : List V → Hp → VK → Prop := fun xs H Q => match xs with
  | [.non, .ref D] => (∃ b, PySem.W.kitOne K (.type "NoneType") (.ref D) = some b ∧ Q (.bl b) H)
  | [.ref a, .ref D] => ∃ C b, H a = some (excO a (.ref C)) ∧ ExcQ K C ∧ PySem.W.kitOne K (.ref C) (.ref D) = some b ∧ Q (.bl b) H
  | [.ref a, .ty n] => ∃ C b, H a = some (excO a (.ref C)) ∧ ExcQ K C ∧ PySem.W.kitOne K (.ref C) (.type n) = some b ∧ Q (.bl b) H
  | [.non, .ty n] => (∃ b, PySem.W.kitOne K (.type "NoneType") (.type n) = some b ∧ Q (.bl b) H)
  | _ => False
end
def XPo (X : Cx) (pins : List (Addr × Obj)) (σ : St) (E : XK) (e : Value) (s' : Shared) : Prop := ∃ H1 s1, Inv X pins σ H1 s1 ∧ CXE X.prog X.w X.stack H1 s1 E e s'
def PEX (X : Cx) (e : Expr) (t : TE) (E : XK) : Prop :=
  ∀ (pins : List (Addr × Obj)) (s : Shared) (σ : St) (H : Hp) (Q : VK), Inv X pins σ H s → t σ H Q → wpAny (model X.prog X.w) X.A (eval e X.env) (EP X pins σ Q) (XPo X pins σ E) s
def PSX (X : Cx) (st : Stmt) (t : TS) (E : XK) : Prop :=
  ∀ (pins : List (Addr × Obj)) (s : Shared) (σ : St) (H : Hp) (D : Ends), Inv X pins σ H s → t D σ H → wpAny (model X.prog X.w) X.A (exec st X.env) (SP X pins D) (XPo X pins σ E) s
section
variable {X : Cx} {k : Nat} {f C : Addr} {fd : FuncData} {ps : List Str} {sp : Sp} {dvs : List V} {ds : List Value} {E : XK} {x m : Str} {p pos apos : Pos} {e o : Expr} {es : List Expr} {ta : TE} {t : TA}
end
section
variable {X : Cx} {pins : List (Addr × Obj)} {σ : St} {H : Hp} {s : Shared}
abbrev Cx.held (X : Cx) (e : Addr) : Cx := { X with A := X.A.mark (some (.ref e)), calm := false, xe := fun _ _ => False }
theorem Inv.held (I : Inv X pins σ H s) (e : Addr) : Inv (X.held e) pins σ H s :=
  ⟨⟨I.ok.mod, I.ok.kind, I.ok.glob, I.ok.blt, I.ok.above, I.ok.inj, I.ok.has, I.ok.cab, fun h => Bool.noConfusion h, I.ok.frames, I.ok.stk, I.ok.exf, I.ok.bs, I.ok.bsz, I.ok.noex, I.ok.exfs, I.ok.funs, I.ok.frf⟩, I.os, I.bare, I.base, I.loc, I.cell, I.free, I.freeC, I.pin, I.hok, I.len⟩
end
def hAs (K : PySem.W.Frag) (D : Addr) (i : Nat) (th : TS) (Dn : Ends) (σ : St) : XK := fun C _ H' => ∃ c, C = .ref c ∧ PySem.W.subIn K (.ref c) (.ref D) = some true ∧
  ∀ e H2, H' e = none → Same H' H2 → H2 e = some (excO e (.ref c)) → th { nx := fun σ2 H3 => Dn.nx (σ2.set i none) H3, rt := Dn.rt, bk := fun σ2 H3 => Dn.bk (σ2.set i none) H3, ct := fun σ2 H3 => Dn.ct (σ2.set i none) H3 } (σ.set i (some (.ref e))) H2
def tTryAs (K : PySem.W.Frag) (D : Addr) (i : Nat) (tb : XK → TS) (th : TS) : TS := fun Dn σ H => tb (hAs K D i th Dn σ) Dn σ H
section
variable {X : Cx} {D : Addr} {dn n : Str} {i : Nat} {st b₀ : Stmt} {suite : List Stmt} {tb : XK → TS} {th : TS} {np hpos pos : Pos}
end
def tDNewS : TE := fun _ H Q => New H (.dK []) Q ⟨⟩
end L2

namespace L2
open PySem PySem.Spec PyProof.Rows
section
variable {X : Cx} {tg : Expr}
def rStr1 (g : Str → Str → V) : V → List V → Hp → VK → Prop := fun x vs H Q => match x, vs with
  | .str z, [.str y] => Q (g z y) H
  | _, _ => False
theorem mt_startswith : MtR X "str.startswith" (rStr1 fun z y => .bl (Txt.startswith z y)) := by
  intro pins s σ H x xs v us Q I rx rs h
  match x, xs, h with
  | .str z, [.str y], q =>
    obtain ⟨t, rfl⟩ := rx
    obtain ⟨u, rfl, t', rfl⟩ := vals1 rs
    exact call_gives F.slot_str_startswith (typeIs_str _ _ _) F.entry_str_startswith (F.args_str_startswith_2 _ _) (gives_str_startswith z y t t') ⟨.bl (Txt.startswith z y), H, I, rfl, q⟩
def Its (x : Str) : It := ⟨fun i _ => i < x.cps.size, fun i H v H' => H' = H ∧ ∃ c, x.cps[i]? = some c ∧ v = .str ⟨#[c]⟩, fun i _ => i = x.cps.size⟩
theorem turn_str {P : Program} {w : World} {K : PySem.W.Frag} (it : Addr) (x : Str) (t : Tok) {n : String} (hn : ["enumerate", "zip", "dict_itemiterator", "dict_reverseitemiterator", "odict_iterator", "itertools.zip_longest", "itertools.pairwise"].contains n = false)
    (W : ∀ A' : Around, A'.handled = none → Walks P w A' it [it] [it] x.cps.size (SignAt x) (fun i h => h.IsStrIter it n x t i))
    (S : ∀ (A : Around) (i : Nat) (s : Shared) (Q : Value → Shared → Prop) (E : Value → Shared → Prop), s.heap.IsStrIter it n x t i → Q (.ref it) s → wpAny (model P w) A (pyIter (.ref it)) Q E s) : Turn P w K tg (Its x) [it] it (fun i h => h.IsStrIter it n x t i) where
  mem := by simp
  obj := fun i h st b hb => by
    have e : b = it := by simpa using hb
    subst e
    obtain ⟨o, e, c, d⟩ := st
    exact ⟨o, e, fun v z => by rw [d] at z; cases z⟩
  keep := fun i h h' st k => let ⟨o, ho, r⟩ := st; ⟨o, k it (by simp) o ho, r⟩
  item := by
    intro X hP hw hK hc i pins s σ H E I hf st hg
    subst hP hw hK
    obtain ⟨f0, f1, f2, f3, f4, f5⟩ := hf it (by simp)
    refine (W _ (I.ok.hd hc)).item i s _ _ hg st fun v h' tk hv st' kk => ?_
    obtain ⟨c, u, hc', rfl⟩ := hv
    have I1 : Inv X pins σ H { s with heap := h', toks := tk } := I.turned (fun b o hb e => kk b o (by simpa using hb) e) f0 f1 f3 f4 f5
    obtain ⟨o, e1, c1, d1⟩ := id st'
    exact ⟨_, rfl, go_of (s := { s with heap := h', toks := tk }) e1 c1 d1 hn ⟨.str ⟨#[c]⟩, H, I1, ⟨u, rfl⟩, ⟨rfl, c, hc', rfl⟩, st', fun b hb => (hf b hb).1⟩⟩
  done := by
    intro X hP hw hK hc i pins s σ H E I hf st hg
    subst hP hw hK
    obtain ⟨f0, f1, f2, f3, f4, f5⟩ := hf it (by simp)
    have hi : i = x.cps.size := hg
    subst hi
    exact (W _ (I.ok.hd hc)).done s _ _ st fun h' tk kk => ⟨rfl, I.turned (t' := tk) (fun b o hb e => kk b o (by simpa using hb) e) f0 f1 f3 f4 f5⟩
  self := S
def iStr (tl : TE) : TI := fun σ H R => tl σ H fun x H1 => match x with
  | .str z => R (Its z) H1
  | _ => False
theorem pi_str {l : Expr} {tl : TE} (hl : PE X l tl) : PI X tg l (iStr tl) := by
  intro pins s σ H R I h
  refine thn (hl pins s σ H _ I h) fun v s1 ⟨x, H1, I1, r1, q1⟩ => ?_
  cases x with
  | str z =>
    obtain ⟨t, rfl⟩ := r1
    have fin : ∀ (o : Obj) (n : String), ["enumerate", "zip", "dict_itemiterator", "dict_reverseitemiterator", "odict_iterator", "itertools.zip_longest", "itertools.pairwise"].contains n = false → (s1.heap.push o).IsStrIter s1.heap.objs.size n z t 0 →
        (∀ A' : Around, A'.handled = none → Walks X.prog X.w A' s1.heap.objs.size [s1.heap.objs.size] [s1.heap.objs.size] z.cps.size (SignAt z) (fun i h => h.IsStrIter s1.heap.objs.size n z t i)) →
        (∀ (A : Around) (i : Nat) (s : Shared) (Q : Value → Shared → Prop) (E : Value → Shared → Prop), s.heap.IsStrIter s1.heap.objs.size n z t i → Q (.ref s1.heap.objs.size) s → wpAny (model X.prog X.w) A (pyIter (.ref s1.heap.objs.size)) Q E s) →
        PIE X pins σ tg R (.ref s1.heap.objs.size) { s1 with heap := s1.heap.push o } := fun o n hn st W S => by
      refine ⟨s1.heap.objs.size, [s1.heap.objs.size], _, _, H1, rfl, I1.kept (t' := s1.toks) fun b o e => Heap.get?_push_of_some _ e, turn_str _ z t hn W S, st, fun b hb => ?_, q1⟩
      have e : b = s1.heap.objs.size := by simpa using hb
      subst e
      exact I1.fpOk (Nat.le_refl _) (I1.hok.fresh (Nat.le_refl _))
    cases ha : z.cps.all (· < 128)
    · exact wpAny_pyIter_wide ha (fin _ "str_iterator" (by decide) ⟨_, Heap.get?_push_size _ rfl, rfl, rfl⟩ (fun A' hA => Walks.strWide hA _ z t) fun _ _ _ _ _ st hQ => wpAny_pyIter_striter_wide st hQ)
    · exact wpAny_pyIter_ascii ha (fin _ "str_ascii_iterator" (by decide) ⟨_, Heap.get?_push_size _ rfl, rfl, rfl⟩ (fun A' hA => Walks.strAscii hA _ z t) fun _ _ _ _ _ st hQ => wpAny_pyIter_striter_ascii st hQ)
  | _ => exact False.elim q1
theorem forW_str {x : Str} {g : TG} {tb : TS} {D : Ends} {σ : St} {H : Hp} (Pv : Nat → St → Hp → Prop) (h0 : Pv 0 σ H)
    (hs : ∀ i c σ H, x.cps[i]? = some c → Pv i σ H → g (.str ⟨#[c]⟩) σ H fun σ2 H2 => tb { D with nx := Pv (i + 1), ct := Pv (i + 1), bk := D.nx } σ2 H2) (hd : ∀ σ H, Pv x.cps.size σ H → D.nx σ H) : ForW (Its x) g tb D σ H := by
  refine ⟨fun i m σ H => m = x.cps.size - i ∧ i ≤ x.cps.size ∧ Pv i σ H, ⟨x.cps.size, by simp, Nat.zero_le _, h0⟩, ?_⟩
  rintro i m σ H ⟨rfl, hi, p⟩
  by_cases hlt : i < x.cps.size
  · refine .inr ⟨hlt, Pv (i + 1), fun σ' H' p' => ⟨x.cps.size - (i + 1), by omega, rfl, hlt, p'⟩, fun v H' y => ?_⟩
    obtain ⟨e, c, hc, e2⟩ := y
    subst e e2
    exact hs i c σ _ hc p
  · have e : i = x.cps.size := by omega
    subst e
    exact .inl ⟨rfl, hd σ H p⟩
def rSlA : V → Option Int → Option Int → Hp → VK → Prop := fun x lo hi H Q => match x with
  | .ref a => (match H a with
    | some (.lst xs) => New H (.lst (cutV xs lo hi)) Q ⟨⟩
    | _ => False)
  | .str z => z.length ≤ sizeLine ∧ Q (.str (Txt.slice z lo hi)) H
  | _ => False
theorem sl_A : SlR X rSlA := by
  intro pins s σ H x v vl vu lo hi sl Q I rx hs pl pu h
  cases x with
  | ref a => exact sl_M pins s σ H _ v vl vu lo hi sl Q I rx hs pl pu h
  | str z =>
    obtain ⟨t, rfl⟩ := rx
    obtain ⟨hz, q⟩ := h
    have fin : ∀ t' k, EP X pins σ Q (.str (Txt.slice z lo hi) t') { s with toks := k } := fun t' k => ⟨.str _, H, I.tok k, ⟨_, rfl⟩, q⟩
    refine ⟨"str", _, F.slot_str_getitem.lookup, typeIs_str _ _ _, ?_⟩
    cases pl with
    | none =>
      cases pu with
      | none => exact wpAny_getItem_str_slice (l := none) (u := none) (st := none) hs rfl (post_val_or_str ⟨Nat.le_trans (Txt.slice_le z _ _) hz, fin⟩)
      | int j uj => exact wpAny_getItem_str_slice (l := none) (u := some (j, uj)) (st := none) hs rfl (post_val_or_str ⟨Nat.le_trans (Txt.slice_le z _ _) hz, fin⟩)
    | int i ui =>
      cases pu with
      | none => exact wpAny_getItem_str_slice (l := some (i, ui)) (u := none) (st := none) hs rfl (post_val_or_str ⟨Nat.le_trans (Txt.slice_le z _ _) hz, fin⟩)
      | int j uj => exact wpAny_getItem_str_slice (l := some (i, ui)) (u := some (j, uj)) (st := none) hs rfl (post_val_or_str ⟨Nat.le_trans (Txt.slice_le z _ _) hz, fin⟩)
  | _ => exact False.elim h
def rIntF : List V → Hp → VK → Prop := fun xs H Q => match xs with
  | [.int i] => Q (.int i) H
  | [.bl k] => Q (.int (if k then 1 else 0)) H
  | [.str z] => ∃ n, PySem.intText? z = some n ∧ z.length ≤ 640 ∧ Q (.int n) H
  | _ => False
theorem call_intF : CallR X (.type "int") rIntF := by
  intro pins s σ H xs us Q I r h
  match xs, r, h with
  | [.int i], r, q => exact call_int1 pins s σ H _ us Q I r (.inl ⟨i, rfl, q⟩)
  | [.bl k], r, q => exact call_int1 pins s σ H _ us Q I r (.inr ⟨k, rfl, q⟩)
  | [.str z], r, ⟨n, hn, hl, q⟩ =>
    obtain ⟨u, rfl, t, rfl⟩ := vals1 r
    exact PySem.W.KIN.call_text hn hl ⟨.int n, H, I.tok _, ⟨_, rfl⟩, q⟩
def rStrI : List V → Hp → VK → Prop := fun xs H Q => match xs with
  | [.int i] => i.natAbs.log2 < 1920 ∧ Q (.str (toString i)) H
  | _ => False
theorem call_strF : CallR X (.type "str") rStrI := call_str_int.weak fun xs H Q h => by
  match xs, h with
  | [.int i], ⟨a, b⟩ => exact ⟨i, rfl, a, b⟩
def tFmt (te : TE) : TE := fun σ H Q => te σ H fun x H1 => match x with
  | .int i => i.natAbs.log2 < 1920 ∧ Q (.str (toString i)) H1
  | .str y => y.length ≤ sizeLine ∧ Q (.str y) H1
  | _ => False
theorem pe_fmt {e : Expr} {te : TE} {pos : Pos} (he : PE X e te) : PE X (.FormattedValue e (-1) none pos) (tFmt te) := by
  intro pins s σ H Q I h
  refine wpAny_FormattedValue_plain (thn (he pins s σ H _ I h) fun v s1 ⟨x, H1, I1, r1, q1⟩ => ?_)
  cases x with
  | int i =>
    obtain ⟨t, rfl⟩ := r1
    exact wpAny_formatField_int q1.1 ⟨.str (toString i), H1, I1.tok _, ⟨_, rfl⟩, q1.2⟩
  | str y =>
    obtain ⟨t, rfl⟩ := r1
    exact wpAny_formatField_str (hx := q1.1) ⟨.str y, H1, I1, ⟨_, rfl⟩, q1.2⟩ ⟨.str y, H1, I1.tok _, ⟨_, rfl⟩, q1.2⟩
  | _ => exact False.elim q1
abbrev TJ := Str → St → Hp → (Str → Hp → Prop) → Prop
def PJ (X : Cx) (es : List Expr) (t : TJ) : Prop := ∀ (pins : List (Addr × Obj)) (acc : Str) (s : Shared) (σ : St) (H : Hp) (Q : Str → Hp → Prop) (Q' : Str → Shared → Prop), Inv X pins σ H s → t acc σ H Q → (∀ out H1 s1, Inv X pins σ H1 s1 → Q out H1 → Q' out s1) →
  Joins (model X.prog X.w) X.A X.xe (evalEach es X.env) acc Q' s
def tJNil : TJ := fun acc _ H Q => Q acc H
def tJCons (te : TE) (tr : TJ) : TJ := fun acc σ H Q => te σ H fun x H1 => match x with
  | .str y => acc.length + y.length ≤ sizeLine ∧ tr (acc ++ y) σ H1 Q
  | _ => False
theorem pj_nil : PJ X [] tJNil := fun pins acc s σ H Q Q' I h k => k acc H s I h
theorem pj_cons {e : Expr} {es : List Expr} {te : TE} {tr : TJ} (he : PE X e te) (hr : PJ X es tr) (hs : evalEach (e :: es) X.env = eval e X.env :: evalEach es X.env := by rfl) : PJ X (e :: es) (tJCons te tr) := by
  intro pins acc s σ H Q Q' I h k
  rw [hs]
  refine thn (he pins s σ H _ I h) fun v s1 ⟨x, H1, I1, r1, q1⟩ => ?_
  cases x with
  | str y =>
    obtain ⟨t, rfl⟩ := r1
    exact ⟨y, t, rfl, by rw [strLen_append]; exact q1.1, hr pins (acc ++ y) s1 σ H1 Q Q' I1 q1.2 k⟩
  | _ => exact False.elim q1
def tJoin (tj : TJ) : TE := fun σ H Q => tj Str.empty σ H fun out H1 => out.length ≤ sizeLine ∧ Q (.str out) H1
theorem pe_joined {e₁ e₂ : Expr} {es : List Expr} {tj : TJ} {pos : Pos} (h : PJ X (e₁ :: e₂ :: es) tj) : PE X (.JoinedStr (e₁ :: e₂ :: es) pos) (tJoin tj) := by
  intro pins s σ H Q I hq
  exact wpAny_JoinedStr (h pins Str.empty s σ H _ _ I hq fun out H1 s1 I1 q => ⟨q.1, .str out, H1, I1.tok _, ⟨_, rfl⟩, q.2⟩)
def splitS (x y : Str) : List Str := if (decide (x.length < y.length) || decide (Builtin.Str.strKind x < Builtin.Str.strKind y)) = true then [x] else if (Builtin.Str.occurrences x y 0 x.length (x.length + 1)).isEmpty = true then [x] else Builtin.Str.partsBetween x (Builtin.Str.occurrences x y 0 x.length (x.length + 1)) y.length
def rSplit : V → List V → Hp → VK → Prop := fun x vs H Q => match x, vs with
  | .str z, [.str y] => (y.length == 0) = false ∧ z.length ≤ sizeLine ∧ (splitS z y).length ≤ sizeLine ∧ New H (.lst ((splitS z y).map V.str)) Q ⟨⟩
  | _, _ => False
theorem vals_strs : ∀ (l : List Str) (k : Nat), Vals (l.map V.str) (strsFrom k l)
  | [], _ => .nil
  | x :: l, k => .cons ⟨_, rfl⟩ (vals_strs l (k + 1))
theorem mt_split : MtR X "str.split" rSplit := by
  intro pins s σ H x xs v us Q I rx rs h
  match x, xs, h with
  | .str z, [.str y], ⟨hy, hz, hn, q⟩ =>
    obtain ⟨t, rfl⟩ := rx
    obtain ⟨u, rfl, t', rfl⟩ := vals1 rs
    have fr : H s.heap.objs.size = none := I.hok.fresh (Nat.le_refl _)
    have itself : splitS z y = [z] → EP X pins σ Q (.ref s.heap.objs.size) { s with heap := s.heap.push { cls := .type "list", data := .seq [Value.str z t].toArray } } := fun e => by
      rw [e] at q
      exact ⟨.ref _, _, I.laid (o := .lst ([z].map V.str)) (t' := s.toks) (fun b u e => Heap.get?_push_of_some _ e) (Nat.le_refl _) ⟨show 1 ≤ sizeLine by decide, [Value.str z t], 0, .cons ⟨t, rfl⟩ .nil, Heap.get?_push_size _ rfl⟩, rfl, q.raw _ fr⟩
    by_cases h1 : (decide (z.length < y.length) || decide (Builtin.Str.strKind z < Builtin.Str.strKind y)) = true
    · exact call_meets F.slot_str_split (typeIs_str _ _ _) F.entry_str_split (F.args_str_split_2 _ _) (meets_str_split_cannot_occur z y t t' h1) (itself (by unfold splitS; rw [if_pos h1]))
    · have h1' := Bool.eq_false_iff.mpr h1
      by_cases h2 : (Builtin.Str.occurrences z y 0 z.length (z.length + 1)).isEmpty = true
      · exact call_meets F.slot_str_split (typeIs_str _ _ _) F.entry_str_split (F.args_str_split_2 _ _) (meets_str_split_not_found z y t t' h1' hy h2) (itself (by unfold splitS; rw [if_neg h1, if_pos h2]))
      · have h2' := Bool.eq_false_iff.mpr h2
        have e : splitS z y = Builtin.Str.partsBetween z (Builtin.Str.occurrences z y 0 z.length (z.length + 1)) y.length := by unfold splitS; rw [if_neg h1, if_neg h2]
        refine call_meets F.slot_str_split (typeIs_str _ _ _) F.entry_str_split (F.args_str_split_2 _ _) (meets_str_split_sep z y t t' h1' hy h2' hz (by rw [← e]; exact hn)) ?_
        rw [← e]
        refine ⟨.ref _, _, I.laid (o := .lst ((splitS z y).map V.str)) (t' := s.toks + (splitS z y).length) (fun b u e => Heap.get?_push_of_some _ e) (Nat.le_refl _) ⟨by rw [List.length_map]; exact hn, strsFrom s.toks (splitS z y), 0, vals_strs _ _, Heap.get?_push_size _ rfl⟩, rfl, q.raw _ fr⟩
def hasS (z y : Str) : Bool := !(Builtin.Str.occurrences z y 0 z.length 1).isEmpty
def rInM (neg : Bool) : R2 := fun x y H Q => match y with
  | .str z => (match x with
    | .str y => Q (.bl (hasS z y != neg)) H
    | _ => False)
  | .ref p => (match H p with
    | some (.lst xs) => flatV x = true ∧ xs.all flatV = true ∧ Q (.bl (inV x xs != neg)) H
    | some (.tup xs) => flatV x = true ∧ xs.all flatV = true ∧ Q (.bl (inV x xs != neg)) H
    | _ => False)
  | _ => False
theorem op_notInM : OpR X (compareOp .NotIn) (rInM true) := by
  intro pins s σ H x y v u Q I rx ry h
  cases y with
  | str z =>
    cases x with
    | str y =>
      have h : Q (.bl (hasS z y != true)) H := h
      rw [Bool.bne_true] at h
      exact op_notIn_str pins s σ H _ _ v u Q I rx ry ⟨y, z, rfl, rfl, h⟩
    | _ => exact False.elim h
  | ref p =>
    have h : (match H p with
      | some (.lst xs) => flatV x = true ∧ xs.all flatV = true ∧ Q (.bl (inV x xs != true)) H
      | some (.tup xs) => flatV x = true ∧ xs.all flatV = true ∧ Q (.bl (inV x xs != true)) H
      | _ => False) := h
    split at h
    · rename_i xs e
      rw [Bool.bne_true] at h
      exact op_notIn_seq pins s σ H _ _ v u Q I rx ry ⟨p, xs, rfl, .inl (SqL.of e), h.1, h.2.1, by simpa using h.2.2⟩
    · rename_i xs e
      rw [Bool.bne_true] at h
      exact op_notIn_seq pins s σ H _ _ v u Q I rx ry ⟨p, xs, rfl, .inr (SqT.of e), h.1, h.2.1, by simpa using h.2.2⟩
    · exact h.elim
  | _ => exact False.elim h
end
end L2

namespace L2
open PySem PySem.Spec PyProof.Rows
def Wr (H : Hp) (a : Addr) (o : HO) (k : Hp → Prop) (_ : Tag k) : Prop := ∀ H1, SameB a H H1 → H1 a = some o → k H1
section
variable {X : Cx} {e o value : Expr} {f m x : Str} {pos pos' apos : Pos} {ta tv : TE} {t : TA} {C : Addr} {es : List Expr}
def tFldF (K : PySem.W.Frag) (ta : TE) (f : Str) : TE := fun σ H Q => ta σ H fun x H1 => match x with
  | .ref a => (match H1 a with
    | some (.ins C dx fs) => Cls K C ∧ NoAttr K C f ∧ (match fs.lookup f with
      | some v => Q v H1
      | none => False)
    | _ => False)
  | _ => False
theorem pe_fldF (he : PE X e ta) (hb : attributeBase e f X.env (eval e X.env) = eval e X.env) : PE X (.Attribute e f pos) (tFldF X.K ta f) := by
  intro pins s σ H Q I h
  refine (pe_fld he hb) pins s σ H Q I ?_
  unfold tFld
  unfold tFldF at h
  have q : (fun (x : V) (H1 : Hp) => (match x with
      | .ref a => (match H1 a with
        | some (.ins C dx fs) => Cls X.K C ∧ NoAttr X.K C f ∧ (match fs.lookup f with
          | some v => Q v H1
          | none => False)
        | _ => False)
      | _ => False : Prop)) = fun x H1 => ∃ a C dx fs v, x = .ref a ∧ H1 a = some (.ins C dx fs) ∧ Cls X.K C ∧ NoAttr X.K C f ∧ fs.lookup f = some v ∧ Q v H1 := by
    funext x H1
    refine propext ⟨fun z => ?_, fun ⟨a, C, dx, fs, v, e1, e2, c, n, l, q⟩ => ?_⟩
    · cases x with
      | ref a =>
        dsimp only at z
        split at z
        · rename_i C dx fs e1
          obtain ⟨c, n, z⟩ := z
          split at z
          · rename_i v e2
            exact ⟨a, C, dx, fs, v, rfl, e1, c, n, e2, z⟩
          · exact z.elim
        · exact z.elim
      | _ => exact False.elim z
    · subst e1
      dsimp only
      rw [e2]
      dsimp only
      rw [l]
      exact ⟨c, n, q⟩
  rw [q] at h
  exact h
def sFldF (K : PySem.W.Frag) (ta tv : TE) (f : Str) : TS := fun D σ H => tv σ H fun y H1 => ta σ H1 fun x H2 => match x with
  | .ref a => (match H2 a with
    | some (.ins C dx fs) => Cls K C ∧ NoAttr K C f ∧ fs.length < 1000 ∧ Wr H2 a (.ins C dx (putF f y fs)) (D.nx σ) ⟨⟩
    | _ => False)
  | _ => False
theorem ps_fldF (ha : PE X o ta) (hv : PE X value tv) (hs : swapsWith value (some (.Attribute o f pos')) pos.line X.env = pure false) : PS X (.Assign [.Attribute o f pos'] value pos) (sFldF X.K ta tv f) := by
  intro pins s σ H D I h
  refine plainObj_wpAny_Assign_Attribute (thn (hv pins s σ H _ I h) fun u s1 ⟨y, H1, I1, ry, q⟩ => thn (ha pins s1 σ H1 _ I1 q) fun ov s2 ⟨x, H2, I2, rx, z⟩ => ?_) hs
  cases x with
  | ref a =>
    obtain rfl : ov = Value.ref a := rx
    dsimp only at z
    split at z
    · rename_i C dx fs e1
      obtain ⟨c, n, l, k⟩ := z
      exact setattr_ok I2 e1 c n l ry fun s3 I3 => ⟨σ, _, I3, k _ SameB.upd upd_same⟩
    · exact z.elim
  | _ => exact False.elim z
end
def tMethF (C : Addr) (m : Str) (sp : Sp) (dvs : List V) (E : XK) (ta : TE) (t : TA) : TE := fun σ H Q => ta σ H fun x H1 => match x with
  | .ref a => (match H1 a with
    | some (.ins C' dx fs) => C' = C ∧ fs.lookup m = none ∧ t σ H1 fun vs H2 => sp (x :: (vs ++ dvs)) H2 Q E
    | _ => False)
  | _ => False
section
variable {X : Cx} {CX : CXT} {k : Nat} {f C : Addr} {fd : FuncData} {ps : List Str} {sp : Sp} {dvs : List V} {ds : List Value} {E : XK} {x m : Str} {p pos apos : Pos} {e o : Expr} {es : List Expr} {ta : TE} {t : TA}
theorem pe_methF {pl : Sem Bool} (he : PE X o ta) (c : Cls X.K C) (hm : Meth X.K C m f) (F : FnOk X.prog X.w X.K X.mg X.base CX k f fd ps sp) (hr : Room k X.A) (hb : Binds X.K fd ps ds) (hd : Vals dvs ds) (hx : Passes CX X E) (ha : PA X (e :: es) t)
    (hst : starEach (e :: es) X.env = (false, eval e X.env) :: starEach es X.env := by rfl) (hpl : (backTo pos (starEach es X.env)).any (·.1) = false := by rfl)
    (ht : eval (.Call (.Attribute o m apos) (e :: es) [] pos) X.env = (do
      let ov ← eval o X.env
      standAt apos.atName
      let (f, first) ← holding [ov] (getMethod ov m pl)
      callWith pos f first (backTo pos (starEach (e :: es) X.env)) (backToKw pos (keywordEach [] X.env))) := by rfl) :
    PE X (.Call (.Attribute o m apos) (e :: es) [] pos) (tMethF C m sp dvs E ta t) := by
  intro pins s σ H Q I h
  refine PySem.W.methodCall_KW (pl := pl) (thn (he pins s σ H _ I h) fun u s1 ⟨x, H1, I1, rx, z⟩ => ?_) ht
  cases x with
  | ref a =>
    obtain rfl : u = Value.ref a := rx
    dsimp only at z
    split at z
    · rename_i C' dx fs ea
      obtain ⟨rfl, l, q⟩ := z
      refine getmeth_ok I1 ea c hm l ?_
      refine PySem.W.callWith_K (first := [.ref a]) (h₀ := X.base) I.ok.mod.kin hm.kp (thn (ha pos pins s1 σ H1 _ I1 q) fun us s2 ⟨vs, H2, I2, r, q2⟩ => ⟨I2.kIn, ?_⟩) hst hpl
      exact run_fn (us := .ref a :: us) (vs := .ref a :: vs) F hr hb hd hx I2 (.cons rfl r) q2
    · exact z.elim
  | _ => exact False.elim z
theorem pe_meth0F {pl : Sem Bool} (he : PE X o ta) (c : Cls X.K C) (hm : Meth X.K C m f) (F : FnOk X.prog X.w X.K X.mg X.base CX k f fd ps sp) (hr : Room k X.A) (hb : Binds X.K fd ps ds) (hd : Vals dvs ds) (hx : Passes CX X E)
    (ht : eval (.Call (.Attribute o m apos) [] [] pos) X.env = (do
      let ov ← eval o X.env
      standAt apos.atName
      let (f, first) ← holding [ov] (getMethod ov m pl)
      callWith pos f first (backTo pos (starEach [] X.env)) (backToKw pos (keywordEach [] X.env))) := by rfl) :
    PE X (.Call (.Attribute o m apos) [] [] pos) (tMethF C m sp dvs E ta tNil) := by
  intro pins s σ H Q I h
  refine PySem.W.methodCall_KW (pl := pl) (thn (he pins s σ H _ I h) fun u s1 ⟨x, H1, I1, rx, z⟩ => ?_) ht
  cases x with
  | ref a =>
    obtain rfl : u = Value.ref a := rx
    dsimp only at z
    split at z
    · rename_i C' dx fs ea
      obtain ⟨rfl, l, q⟩ := z
      refine getmeth_ok I1 ea c hm l ?_
      exact PySem.W.callWith_K0 (first := [.ref a]) I1.kIn hm.kp (run_fn (us := [.ref a]) (vs := [.ref a]) F hr hb hd hx I1 (.cons rfl .nil) q)
    · exact z.elim
  | _ => exact False.elim z
def NewI (H : Hp) (C : Addr) (k : Addr → Hp → Prop) (_ : Tag k) : Prop := ∀ x dx H1, H x = none → H dx = none → dx ≠ x → Same H H1 → H1 dx = some (.own x) → H1 x = some (.ins C dx []) → k x H1
def AsNew (x : Addr) (Q : VK) : VK := fun v H2 => v = .non ∧ Q (.ref x) H2
theorem asNew {x : Addr} {Q : VK} {H2 : Hp} {v : V} : AsNew x Q v H2 = (v = .non ∧ Q (.ref x) H2) := rfl
def tMakeS (C : Addr) (sp : Sp) (dvs : List V) (E : XK) (t : TA) : TE := fun σ H Q => t σ H fun vs H1 => NewI H1 C (fun x H2 => sp (.ref x :: (vs ++ dvs)) H2 (AsNew x Q) E) ⟨⟩
theorem NewI.raw {H : Hp} {C : Addr} {k : Addr → Hp → Prop} {t : Tag k} (h : NewI H C k t) : ∀ x dx, H x = none → H dx = none → dx ≠ x → k x (upd (upd H dx (.own x)) x (.ins C dx [])) := fun x dx ex ed ne =>
  h x dx _ ex ed ne ((Same.upd ed).trans (Same.upd (by rw [upd_ne ne.symm]; exact ex))) (by rw [upd_ne ne]; exact upd_same) upd_same
theorem pe_makeS (M : Mk X.K C f) (F : FnOk X.prog X.w X.K X.mg X.base CX k f fd ps sp) (hr : Room (k + 1) X.A) (hg : Gl X x) (hm : X.mg x = some (.ref C)) (hb : Binds X.K fd ps ds) (hd : Vals dvs ds) (hx : Passes CX X E)
    (ha : PA X (e :: es) t) (hdb : (x == ("__debug__" : Str)) = false := by decide) (he : starEach (e :: es) X.env = (false, eval e X.env) :: starEach es X.env := by rfl) (hpl : (backTo pos (starEach es X.env)).any (·.1) = false := by rfl) :
    PE X (.Call (.Name x p) (e :: es) [] pos) (tMakeS C sp dvs E t) := by
  intro pins s σ H Q I h
  refine wpAny_Call_Name_kw (ld_glob I hg hm ?_ hdb)
  refine PySem.W.callWith_K (h₀ := X.base) I.ok.mod.kin M.kp (thn (ha pos pins s σ H _ I h) fun us s1 ⟨vs, H1, I1, r, q⟩ => ⟨I1.kIn, ?_⟩) he hpl
  exact run_make M F hr hb hd hx I1 r q.raw
end
def sFldAugF (K : PySem.W.Frag) (ta tv : TE) (rd : V → V → Hp → VK → Prop) (f : Str) : TS := fun D σ H => ta σ H fun x H1 => match x with
  | .ref a => (match H1 a with
    | some (.ins C dx fs) => Cls K C ∧ NoAttr K C f ∧ (match fs.lookup f with
      | some v => tv σ H1 fun y H2 => rd v y H2 fun z H3 => (match H3 a with
        | some (.ins C' dx' fs') => C' = C ∧ fs'.length < 1000 ∧ Wr H3 a (.ins C dx' (putF f z fs')) (D.nx σ) ⟨⟩
        | _ => False)
      | none => False)
    | _ => False)
  | _ => False
section
variable {X : Cx} {o e value : Expr} {f : Str} {pos pos' tpos : Pos} {ta tv : TE}
end
def rInF (g : Int → Int → Int) : V → V → Hp → VK → Prop := fun x y H Q => match x, y with
  | .int i, .int j => Q (.int (g i j)) H
  | _, _ => False
def tAugF (i : Nat) (te : TE) (ti : TIp) : TS := fun D σ H => match σ[i]? with
  | some (some x) => te σ H fun y H1 => ti x y H1 fun z H2 => D.nx (σ.set i (some z)) H2
  | _ => False
section
variable {X : Cx} {pos : Pos}
theorem in_addF : InOp X .Add (rInF fun i j => i + j) := by
  intro pins s σ H x y u v Q I rx ry h
  cases x <;> cases y <;> try exact False.elim h
  exact in_add pins s σ H _ _ u v Q I rx ry ⟨_, _, rfl, rfl, h⟩
theorem ip_addF : PIp X .Add (rInF fun i j => i + j) := fun pins s σ H x y u v Q I rx ry h => in_addF pins s σ H x y u v Q I rx ry h
theorem ps_augF {i : Nat} {x : Str} {e : Expr} {te : TE} {op : Operator} {ti : TIp} {pos' : Pos} (hN : X.N.Nodup) (hi : X.N[i]? = some x) (hx : Loc X.env.scope x) (he : PE X e te) (ho : PIp X op ti) (hf : X.fn x = true ∨ X.env.scope.names.lookup x = some .local := by first | exact .inl rfl | exact .inr rfl | assumption) :
    PS X (.AugAssign (.Name x pos') op e pos) (tAugF i te ti) := by
  intro pins s σ H D I h
  refine ps_aug hN hi hx he ho hf pins s σ H D I ?_
  unfold tAugF at h
  split at h
  · rename_i v e1
    exact ⟨v, e1, h⟩
  · exact h.elim
end
theorem lookup_same {f : Str} {v : V} {r : List (Str × V)} : List.lookup f ((f, v) :: r) = some v := by rw [List.lookup_cons, beq_self_eq_true]
theorem putF_same {f : Str} {v x : V} {r : List (Str × V)} : putF f v ((f, x) :: r) = (f, v) :: r := by rw [putF, if_pos rfl]
theorem putF_nil {f : Str} {v : V} : putF f v [] = [(f, v)] := rfl
theorem lookup_other {f g : Str} {v : V} {r : List (Str × V)} (h : (f == g) = false) : List.lookup f ((g, v) :: r) = r.lookup f := by rw [List.lookup_cons, h]
theorem putF_other {f g : Str} {v x : V} {r : List (Str × V)} (h : (f == g) = false) : putF f v ((g, x) :: r) = (g, x) :: putF f v r := by rw [putF, if_neg fun e => by rw [e, beq_self_eq_true] at h; exact Bool.noConfusion h]
theorem noxK {X : Cx} : X.nox.K = X.K := rfl
end L2

namespace L2
open PySem PySem.Spec PyProof.Rows
structure RoomH (k : Nat) (A : Around) : Prop where
  dp : A.depth + 3 * k + 5 < recursionLimit
  un : A.units + 16 * k + 200 < cLine
theorem Room.h {k : Nat} {A : Around} (r : Room k A) : RoomH k A := ⟨r.dp, r.un⟩
theorem RoomH.mono {j k : Nat} {A : Around} (r : RoomH k A) (h : j ≤ k) : RoomH j A := ⟨by have := r.dp; omega, by have := r.un; omega⟩
theorem RoomH.deeper {k : Nat} {A : Around} (r : RoomH (k + 1) A) (env : Env) : RoomH k (A.deeper env) :=
  ⟨by have := r.dp; show A.depth + 1 + 3 * k + 5 < _; omega, by have := r.un; show A.units + 3 + 16 * k + 200 < _; omega⟩
theorem RoomH.units {k : Nat} {A : Around} (r : RoomH k A) : A.units + 64 < cLine := by have := r.un; omega
theorem RoomH.calm {k : Nat} {A : Around} (r : RoomH k A) : Room k { A with handled := none } := ⟨rfl, r.dp, r.un⟩
structure FnOkH (P : Program) (w : World) (K : PySem.W.Frag) (mg : Str → Option Value) (base : Heap) (k : Nat) (f : Addr) (fd : FuncData) (ps : List Str) (sp : Sp) : Prop where
  len : ∀ vs H Q E, sp vs H Q E → vs.length = ps.length
  run : ∀ (A : Around) (outer : List Env) (s : Shared) (H : Hp) (args : Args) (us : List Value) (vs : List V) (Q : VK) (E : XK), RoomH k A → Env0 P w K mg base A outer s H → BindsTo s fd args (ps.zip us) → Vals vs us → sp vs H Q E →
    codeAny (model P w) A (.call (.ref f) args) (CR CX0 outer P w H s Q E) s
theorem FnOkH.ok {P : Program} {w : World} {K : PySem.W.Frag} {mg : Str → Option Value} {base : Heap} {k : Nat} {f : Addr} {fd : FuncData} {ps : List Str} {sp : Sp} (F : FnOkH P w K mg base k f fd ps sp) : FnOk P w K mg base CX0 k f fd ps sp :=
  ⟨F.len, fun A outer s H args us vs Q E hr => F.run A outer s H args us vs Q E hr.h⟩
abbrev cxOfH (P : Program) (w : World) (K : PySem.W.Frag) (mg : Str → Option Value) (base : Heap) (N : List Str) (qual : Str) (scope : Scope) (f : Addr) (cd : Value) (A : Around) (outer : List Env) (s : Shared) (H : Hp) (E : XK) : Cx := { cxOf CX0 P w K mg base N qual scope f cd A outer s H E with calm := false, xe := fun _ _ => False }
section
variable {X : Cx} {k : Nat} {f : Addr} {fd : FuncData} {ps : List Str} {sp : Sp} {dvs : List V} {ds : List Value} {x : Str} {p pos : Pos} {e : Expr} {es : List Expr} {t : TA}
end
theorem RoomH.mark {k : Nat} {A : Around} (r : RoomH k A) (h : Option Value) : RoomH k (A.mark h) := ⟨r.dp, r.un⟩
end L2

namespace L2
open PySem PySem.Spec PyProof.Rows
open PySem.Builtin.Str (occurrences subAt partsBetween strSub)
abbrev sg (x : Str) : List Nat := x.cps.toList
theorem sg_inj {x y : Str} (h : sg x = sg y) : x = y := Str.ext' (by
  have := congrArg List.toArray h
  simpa using this)
theorem sg_append (x y : Str) : sg (x ++ y) = sg x ++ sg y := by unfold sg; rw [Str.cps_append]; simp
theorem sg_len (x : Str) : (sg x).length = x.length := by simp [Str.length]
theorem at_one {x : Str} {c i : Nat} : StrLaws.At x ⟨#[c]⟩ x.length i ↔ (sg x)[i]? = some c := StrLaws.subAt_one x c i
theorem one_len {c : Nat} : (⟨#[c]⟩ : Str).length = 1 := rfl
theorem sg_sub (x : Str) (i j : Nat) : sg (strSub x i j) = ((sg x).drop i).take (j - i) := StrLaws.strSub_toList x i j
theorem split_at {x : Str} {c : Nat} {a b : List Nat} (hk : c < 128) (h : sg x = a ++ c :: b) (ha : c ∉ a) (hb : c ∉ b) : splitS x ⟨#[c]⟩ = [⟨a.toArray⟩, ⟨b.toArray⟩] := by
  have hl : x.length = a.length + (b.length + 1) := by rw [← sg_len, h]; simp
  have k1 : ¬ ((decide (x.length < (⟨#[c]⟩ : Str).length) || decide (Builtin.Str.strKind x < Builtin.Str.strKind ⟨#[c]⟩)) = true) := by
    have e : Builtin.Str.strKind ⟨#[c]⟩ = 1 := by
      unfold Builtin.Str.strKind
      rw [if_pos (by simp; omega)]
    have g : 1 ≤ Builtin.Str.strKind x := by
      unfold Builtin.Str.strKind
      split
      · decide
      · split <;> decide
    rw [e, one_len]
    simp only [Bool.or_eq_true, decide_eq_true_eq]
    omega
  have only : ∀ i, StrLaws.At x ⟨#[c]⟩ x.length i → i = a.length := by
    intro i hi
    have hi := at_one.mp hi
    rw [h] at hi
    rcases Nat.lt_trichotomy i a.length with q | q | q
    · rw [List.getElem?_append_left q] at hi
      exact absurd (List.mem_of_getElem? hi) ha
    · exact q
    · rw [List.getElem?_append_right (Nat.le_of_lt q)] at hi
      obtain ⟨j, hj⟩ : ∃ j, i - a.length = j + 1 := ⟨i - a.length - 1, by omega⟩
      rw [hj, List.getElem?_cons_succ] at hi
      exact absurd (List.mem_of_getElem? hi) hb
  have there : StrLaws.At x ⟨#[c]⟩ x.length a.length := at_one.mpr (by rw [h, List.getElem?_append_right (Nat.le_refl _), Nat.sub_self]; rfl)
  obtain ⟨f, ch⟩ := StrLaws.occ_chain x ⟨#[c]⟩ (x.length + 1)
  have ho : occurrences x ⟨#[c]⟩ 0 x.length (x.length + 1) = [a.length] := by
    rcases StrLaws.occ_head x ⟨#[c]⟩ (x.length + 1) (by omega) with ⟨h0, hn⟩ | ⟨i, r, h0, hi, hn⟩
    · exact absurd there (hn _)
    · rw [h0] at ch ⊢
      have e := only i hi
      subst e
      cases r with
      | nil => rfl
      | cons j r =>
        obtain ⟨_, _, q1, q2, _⟩ := ch
        have := only j q2
        rw [one_len] at q1
        omega
  unfold splitS
  rw [if_neg k1, ho, if_neg (by simp)]
  simp only [partsBetween, List.map_cons, List.map_nil, List.cons_append, List.nil_append, List.zip_cons_cons, List.zip_nil_right, List.cons.injEq, and_true]
  constructor
  · refine sg_inj ?_
    rw [sg_sub, h]
    simp
  · refine sg_inj ?_
    rw [sg_sub, one_len, h, hl]
    have e : (a ++ c :: b).drop (a.length + 1) = b := by rw [List.drop_append]; simp
    rw [e, List.take_of_length_le (by omega)]
open PySem.NumText (AllDigits digitsVal digitsVal_snoc)
def dg (n : Nat) : List Nat := (Nat.toDigits 10 n).map Char.toNat
theorem dg_val (n : Nat) : digitsVal (dg n) = n := PySem.W.KIN.val_back n
theorem dg_lt {n : Nat} (h : n < 10) : dg n = [n + 48] := by
  have : ∀ d, d < 10 → dg d = [d + 48] := by decide
  exact this n h
theorem dg_snoc {m c : Nat} (hm : 0 < m) (hc : c < 10) : dg (10 * m + c) = dg m ++ [c + 48] := by
  have t : Nat.toDigits 10 m ++ Nat.toDigits 10 c = Nat.toDigits 10 (10 * m + c) := Nat.toDigits_append_toDigits (by decide) hm hc
  unfold dg
  rw [← t, List.map_append]
  have := dg_lt hc
  unfold dg at this
  rw [this]
theorem dg_ne (n : Nat) : dg n ≠ [] := by
  by_cases h : n < 10
  · rw [dg_lt h]; simp
  · have e : n = 10 * (n / 10) + n % 10 := by omega
    rw [e, dg_snoc (by omega) (by omega)]
    simp
theorem dg_all (n : Nat) : AllDigits (dg n) := by
  induction n using Nat.strongRecOn with
  | _ n ih =>
    by_cases h : n < 10
    · rw [dg_lt h]
      intro c hc
      simp at hc
      omega
    · have e : n = 10 * (n / 10) + n % 10 := by omega
      rw [e, dg_snoc (by omega) (by omega)]
      intro c hc
      rcases List.mem_append.mp hc with q | q
      · exact ih (n / 10) (by omega) c q
      · simp at q
        omega
theorem dg_head {n : Nat} (h : 0 < n) : ∃ c r, dg n = c :: r ∧ c ≠ 48 := by
  induction n using Nat.strongRecOn with
  | _ n ih =>
    by_cases q : n < 10
    · exact ⟨n + 48, [], dg_lt q, by omega⟩
    · obtain ⟨c, r, e, hc⟩ := ih (n / 10) (by omega) (by omega)
      have e2 : n = 10 * (n / 10) + n % 10 := by omega
      refine ⟨c, r ++ [n % 10 + 48], ?_, hc⟩
      conv => lhs; rw [e2]
      rw [dg_snoc (by omega) (by omega), e]
      rfl
def Canon (ds : List Nat) : Prop := AllDigits ds ∧ ds ≠ [] ∧ ∀ r, ds = 48 :: r → r = []
theorem val_lt : ∀ {ds : List Nat}, AllDigits ds → digitsVal ds < 10 ^ ds.length := by
  intro ds
  generalize hn : ds.length = n
  induction n generalizing ds with
  | zero => intro _; rw [List.length_eq_zero_iff.mp hn]; decide
  | succ n ih =>
    intro hd
    have hne : ds ≠ [] := fun e => by rw [e] at hn; cases hn
    have e : ds = ds.dropLast ++ [ds.getLast hne] := (List.dropLast_concat_getLast hne).symm
    generalize ds.dropLast = cs at e
    generalize ds.getLast hne = c at e
    subst e
    have hc := hd c (by simp)
    have := ih (ds := cs) (by simp at hn; exact hn) fun d hd' => hd d (by simp [hd'])
    rw [digitsVal_snoc, Nat.pow_succ]
    omega
def txt (t : Int) : List Nat := if t < 0 then 45 :: dg t.natAbs else dg t.natAbs
theorem sg_int (t : Int) : sg (Str.ofString (toString t)) = txt t := by
  unfold txt
  match t with
  | .ofNat m => exact PySem.W.KIN.signs_num m
  | .negSucc m =>
    rw [if_pos (Int.negSucc_lt_zero m)]
    unfold sg
    rw [signs_ofString]
    show (("-" ++ Nat.repr (m + 1)).toList.map Char.toNat) = _
    rw [String.toList_append, List.map_append, Nat.toList_repr]
    rfl
theorem int_of_txt {x : Str} {t : Int} (h : sg x = txt t) (hl : x.length ≤ 4300) : PySem.intText? x = some t := by
  unfold txt at h
  split at h
  · rename_i ht
    have := intText_neg h (dg_all _) (dg_ne _) hl
    rw [dg_val] at this
    rw [this]
    congr 1
    omega
  · rename_i ht
    have := intText_digits (x := x) (by rw [show x.cps.toList = sg x from rfl, h]; exact dg_all _) (by rw [show x.cps.toList = sg x from rfl, h]; exact dg_ne _) hl
    rw [show x.cps.toList = sg x from rfl, h, dg_val] at this
    rw [this]
    congr 1
    omega
theorem dg_len (n : Nat) : (dg n).length ≤ n.log2 + 1 := by
  induction n using Nat.strongRecOn with
  | _ n ih =>
    by_cases h : n < 10
    · rw [dg_lt h]; simp
    · have e : n = 10 * (n / 10) + n % 10 := by omega
      have i := ih (n / 10) (by omega)
      have k : (n / 10).log2 + 1 ≤ n.log2 := by
        rw [Nat.le_log2 (by omega), Nat.pow_succ]
        have := Nat.log2_self_le (n := n / 10) (by omega)
        omega
      have z := dg_snoc (m := n / 10) (c := n % 10) (by omega) (by omega)
      rw [← e] at z
      rw [z]
      rw [List.length_append]
      simp only [List.length_cons, List.length_nil]
      omega
theorem txt_len (t : Int) : (txt t).length ≤ t.natAbs.log2 + 2 := by
  have := dg_len t.natAbs
  unfold txt
  split
  · rw [List.length_cons]; omega
  · omega
def ftxt (t b : Int) : List Nat := txt t ++ 47 :: txt b
structure Good (x : List Nat) (t b : Int) : Prop where
  eq : x = ftxt t b
  pos : 0 < b
  low : Int.gcd t b = 1
  l1 : (dg t.natAbs).length ≤ 9
  l2 : (dg b.natAbs).length ≤ 9
def figs (l : List Nat) : Bool := l.all (fun c => decide (48 ≤ c) && decide (c ≤ 57)) && !l.isEmpty
theorem figs_iff {l : List Nat} : figs l = true ↔ AllDigits l ∧ l ≠ [] := by
  unfold figs AllDigits
  simp
theorem has_fig (c : Nat) : hasS "0123456789" ⟨#[c]⟩ = (decide (48 ≤ c) && decide (c ≤ 57)) := by
  unfold hasS
  rw [StrLaws.found_one]
  have e : (Str.ofString "0123456789").cps.toList = [48, 49, 50, 51, 52, 53, 54, 55, 56, 57] := by decide +kernel
  rw [e]
  by_cases h : 48 ≤ c ∧ c ≤ 57
  · rw [show (decide (48 ≤ c) && decide (c ≤ 57)) = true by simp [h]]
    rw [decide_eq_true_eq]
    simp
    omega
  · rw [show (decide (48 ≤ c) && decide (c ≤ 57)) = false by simp; omega]
    rw [decide_eq_false_iff_not]
    simp
    omega
theorem txt_no {t : Int} {c : Nat} (h1 : c ≠ 45) (h2 : c < 48 ∨ 57 < c) : c ∉ txt t := by
  unfold txt
  intro h
  split at h
  · rcases List.mem_cons.mp h with q | q
    · exact h1 q
    · have := dg_all _ c q; omega
  · have := dg_all _ c h; omega
theorem txt_le (t : Int) : (txt t).length ≤ (dg t.natAbs).length + 1 := by
  unfold txt
  split
  · rw [List.length_cons]; exact Nat.le_refl _
  · exact Nat.le_succ _
theorem sw_one (x : Str) (c : Nat) : Txt.startswith x ⟨#[c]⟩ = decide ((sg x)[0]? = some c) := by
  unfold Txt.startswith
  rw [Bool.eq_iff_iff, Bool.and_eq_true, decide_eq_true_eq, decide_eq_true_eq]
  exact StrLaws.subAt_one x c 0
theorem sw_txt {x : Str} {t : Int} (h : sg x = txt t) : Txt.startswith x ⟨#[45]⟩ = decide (t < 0) := by
  rw [sw_one, h]
  unfold txt
  split
  · rename_i q
    simp [q]
  · rename_i q
    rw [decide_eq_false q, decide_eq_false_iff_not]
    intro e
    have := dg_all _ 45 (List.mem_of_getElem? e)
    omega
theorem sg_from {x : Str} {i : Nat} (h : i ≤ x.length) : sg (Txt.slice x (some (i : Int)) none) = (sg x).drop i := by
  rw [slice_from_eq (b := (x.length : Int)) (by omega) (by omega) rfl]
  simp only [sg, Int.toNat_natCast]
  rw [List.take_of_length_le]
  rw [List.length_drop]
  have := sg_len x
  unfold sg at this
  omega
end L2

namespace L2
open PySem PySem.Spec PyProof.Rows
section
variable {X : Cx}
def rTupS (K : PySem.W.Frag) : List V → Hp → VK → Prop := fun xs H Q => match xs with
  | [.ref p] => (match H p with
    | some (.lst ys) => New H (.tup ys) Q ⟨⟩
    | some (.tup ys) => Q (.ref p) H
    | _ => False)
  | _ => False
theorem call_tupF : CallR X (.type "tuple") (rTupS X.K) := call_tuple_of.weak fun xs H Q h => by
  match xs, h with
  | [.ref p], h =>
    unfold rTupS at h
    dsimp only at h
    split at h
    · rename_i ys e
      exact ⟨p, ys, rfl, .inl ⟨SqL.of e, h.raw⟩⟩
    · rename_i ys e
      exact ⟨p, ys, rfl, .inr ⟨SqT.of e, h⟩⟩
    · exact h.elim
end
section
variable {X : Cx}
structure InsQ (K : PySem.W.Frag) (C : Addr) : Prop where
  ha : PySem.W.findIn K (.ref C) "__class__" = some (some (.builtin "object.__class__"))
  hn : PySem.W.specialIn K (.builtin "object.__class__") "__get__" = some (some (.builtin "getset_descriptor.__get__"))
  htk : PySem.W.takesIn K (.builtin "object.__class__") = some true
  hm : PySem.W.mroIn K C (.type "object") = some true
def rIsI (K : PySem.W.Frag) : List V → Hp → VK → Prop := fun xs H Q => match xs with
  | [.ref a, .ref D] => (match H a with
    | some (.ins C dx fs) => Cls K C ∧ InsQ K C ∧ (match PySem.W.kitOne K (.ref C) (.ref D) with
      | some b => Q (.bl b) H
      | none => False)
    | _ => False)
  | _ => False
end
section
variable {X : Cx} {pos : Pos}
def rDivmod : List V → Hp → VK → Prop := fun xs H Q => match xs with
  | [.int i, .int j] => (0 < j ∧ j < 1073741824) ∧ New H (.tup [.int (i / j), .int (i % j)]) Q ⟨⟩
  | _ => False
def gNilF : TGs := fun vs σ H Q => match vs with
  | [] => Q σ H
  | _ => False
def gConsF (t : TG) (u : TGs) : TGs := fun vs σ H Q => match vs with
  | v :: r => t v σ H fun σ' H' => u r σ' H' Q
  | _ => False
def gTupF (n : Nat) (t : TGs) : TG := fun v σ H Q => match v with
  | .ref a => (match H a with
    | some (.tup xs) => xs.length = n ∧ t xs σ H Q
    | _ => False)
  | _ => False
theorem pgs_nilF : PGs X [] gNilF := by
  intro pins s σ H vs us Q I r h
  refine pgs_nil pins s σ H vs us Q I r ?_
  unfold gNilF at h
  split at h
  · exact ⟨rfl, h⟩
  · exact h.elim
theorem pgs_consF {e : Expr} {es : List Expr} {t : TG} {u : TGs} (h1 : PG X e t) (h2 : PGs X es u)
    (hs : (assignEach (e :: es) X.env).map (·.2) = assign e X.env :: (assignEach es X.env).map (·.2) := by rfl) : PGs X (e :: es) (gConsF t u) := by
  intro pins s σ H vs us Q I r h
  refine pgs_cons h1 h2 hs pins s σ H vs us Q I r ?_
  unfold gConsF at h
  split at h
  · exact ⟨_, _, rfl, h⟩
  · exact h.elim
theorem pg_tupF {es : List Expr} {k : Nat} {t : TGs} {n : Nat} (hc : X.calm = true) (h : PGs X es t)
    (hn : (assignEach es X.env).length = n := by rfl) (hst : (assignEach es X.env).findIdx? (·.1) = none := by rfl) : PG X (.Tuple es k pos) (gTupF n t) := by
  intro pins s σ H v u Q I r hw
  refine pg_tup hc h hn hst pins s σ H v u Q I r ?_
  unfold gTupF at hw
  cases v with
  | ref a =>
    dsimp only at hw
    split at hw
    · rename_i xs e
      exact ⟨a, xs, rfl, SqT.of e, hw.1, hw.2⟩
    · exact hw.elim
  | _ => exact False.elim hw
end
end L2

namespace L2
open PySem PySem.Spec PyProof.Rows
def CompIW (J : It) (tc : TT) (te : TE) (D : Addr) (σ : St) (H : Hp) (Q : VK) (_ : Tag Q) : Prop := ∃ (n : Nat) (W : Nat → List V → Hp → Prop), W 0 [] H ∧ ∀ i ys H, i ≤ n → W i ys H → H D = some (.lst ys) ∧
  ((J.stop i H ∧ Q (.ref D) H) ∨ (i < n ∧ J.go i H ∧ ys.length < sizeLine ∧ ∀ x H', J.yld i H x H' → tc (some x :: σ) H' fun b H1 =>
    if b = true then te (some x :: σ) H1 fun y H2 => H2 D = some (.lst ys) ∧ ∀ H3, SameB D H2 H3 → H3 D = some (.lst (ys ++ [y])) → W (i + 1) (ys ++ [y]) H3
    else W (i + 1) ys H1))
def tCompI (wi : TI) (tc : TT) (te : TE) : TE := fun σ H Q => wi σ H fun J H1 => ∀ D H2, H1 D = none → Same H1 H2 → H2 D = some (.lst []) → CompIW J tc te D σ H2 Q ⟨⟩
section
variable {X : Cx} {scope : Scope} {x : Str} {pins : List (Addr × Obj)} {σ : St} {elt iter cnd : Expr} {px pos : Pos} {wi : TI} {te : TE} {tc : TT}
end
section
variable {X : Cx} {k : Nat} {f C : Addr} {fd : FuncData} {ps : List Str} {sp : Sp} {dvs : List V} {ds : List Value} {E : XK} {x m : Str} {p pos apos : Pos} {e o : Expr} {es : List Expr} {ta : TE} {t : TA}
end
end L2

namespace L2
open PySem PySem.Spec PyProof.Rows
theorem Vals.pick {xs : List V} {us : List Value} (r : Vals xs us) : ∀ idx : List Nat, Vals (idx.filterMap (xs[·]?)) (idx.filterMap (us[·]?))
  | [] => .nil
  | i :: idx => by
    cases e : xs[i]? with
    | none =>
      simp only [List.filterMap_cons, e, r.none_of e]
      exact Vals.pick r idx
    | some x =>
      obtain ⟨u, e2, r2⟩ := r.get e
      simp only [List.filterMap_cons, e, e2]
      exact .cons r2 (Vals.pick r idx)
def rSl3 : V → Option Int → Hp → VK → Prop := fun x st H Q => match x with
  | .ref a => (match H a with
    | some (.lst xs) => st ≠ some 0 ∧ ∀ ys : List V, ys.length ≤ xs.length → (∀ y ∈ ys, y ∈ xs) → New H (.lst ys) Q ⟨⟩
    | _ => False)
  | _ => False
def tSl3 (te : TE) (tl th ts : TO) : TE := fun σ H Q => te σ H fun x H1 => tl σ H1 fun _ H2 => th σ H2 fun _ H3 => ts σ H3 fun st H4 => rSl3 x st H4 Q
section
variable {X : Cx}
def rngV (lo : Int) (n : Nat) : List V := (List.range n).map fun i : Nat => V.int (lo + (i : Int))
def tLRng1 (ta : TA) : TE := fun σ H Q => ta σ H fun vs H1 => match vs with
  | [.int j] => (-1000000 ≤ j ∧ j ≤ 1000000) ∧ New H1 (.lst (rngV 0 j.toNat)) Q ⟨⟩
  | _ => False
def tLRng2 (ta : TA) : TE := fun σ H Q => ta σ H fun vs H1 => match vs with
  | [.int i, .int j] => (-1000000 ≤ i ∧ i ≤ 1000000 ∧ -1000000 ≤ j ∧ j ≤ 1000000) ∧ New H1 (.lst (rngV i (j - i).toNat)) Q ⟨⟩
  | _ => False
end
def tLRev (ta : TE) : TE := fun σ H Q => ta σ H fun x H1 => match x with
  | .ref a => (match H1 a with
    | some (.lst xs) => New H1 (.lst xs.reverse) Q ⟨⟩
    | _ => False)
  | _ => False
def maxD (d : Int) : List Int → Int
  | [] => d
  | n :: ns => ns.foldl max n
section
variable {prog : Program} {w : World} {A : Around} {E : Value → Shared → Prop} {s : Shared}
end
def rMaxD : List V → List V → Hp → VK → Prop := fun vs zs H Q => match vs, zs with
  | [.ref p], [.int d] => (match H p with
    | some (.lst xs) => ∃ ns : List Int, xs = ns.map V.int ∧ Q (.int (maxD d ns)) H
    | _ => False)
  | _, _ => False
def tMaxD (t tk : TA) : TE := fun σ H Q => t σ H fun vs H1 => tk σ H1 fun zs H2 => rMaxD vs zs H2 Q
def rSetM : V → V → V → Hp → (Hp → Prop) → Prop := fun o i v H Q => match o, i with
  | .ref p, .int k => (match H p with
    | some (.lst xs) => (0 ≤ k ∧ k < xs.length) ∧ ∀ H1, SameB p H H1 → H1 p = some (.lst (xs.set k.toNat v)) → Q H1
    | _ => False)
  | _, _ => False
theorem compW_at {K : PySem.W.Frag} {a D : Addr} {xs : List V} {te : TE} {σ : St} {H0 H : Hp} {Q : VK} (zs : List V) (hz : zs.length = xs.length) (n0 : H0 D = none) (S : Same H0 H) (hD : H D = some (.lst [])) (hS : SqL K H0 a xs) (hsz : xs.length ≤ sizeLine)
    (hs : ∀ (i : Nat) x z H' (Q' : VK), xs[i]? = some x → zs[i]? = some z → Same H0 H' → Q' z H' → te (some x :: σ) H' Q') (q : ∀ H', Same H0 H' → H' D = some (.lst zs) → Q (.ref D) H') : CompW (Itl K a) te D σ H Q ⟨⟩ := by
  refine compW_list (fun i ys H' => Same H0 H' ∧ H' D = some (.lst ys) ∧ ys = zs.take i) ⟨S, hD, by simp⟩ hsz (fun i ys H' hi p => ?_) (fun i x ys H' hx p => ?_) (fun ys H' p => ?_)
  · refine ⟨p.2.1, p.1.seq hS, ?_⟩
    rw [p.2.2, List.length_take]
    omega
  · have hi : i < zs.length := by rw [hz]; exact (List.getElem?_eq_some_iff.mp hx).1
    have hzi : zs[i]? = some zs[i] := List.getElem?_eq_getElem hi
    refine hs i x _ H' _ hx hzi p.1 ⟨p.2.1, fun H3 s3 h3 => ⟨p.1.step n0 s3, h3, ?_⟩⟩
    rw [p.2.2, List.take_add_one, hzi]
    rfl
  · refine q H' p.1 ?_
    rw [p.2.1, p.2.2, ← hz, List.take_length]
end L2

namespace L2
open PySem PySem.Spec PyProof.Rows
section
variable {X : Cx} {pins : List (Addr × Obj)} {σ : St} {H : Hp} {s : Shared}
theorem Inv.turnedL {t' : Nat} {h' : Heap} {fp : List Addr} (I : Inv X pins σ H s) (k : ∀ b o, b ∉ fp → s.heap.get? b = some o → h'.get? b = some o) (hf : ∀ b ∈ fp, FpOk X pins H b) : Inv X pins σ H { s with heap := h', toks := t' } := by
  have nit : ∀ b u, H b = some u → b ∉ fp := fun b u e z => by rw [(hf b z).1] at e; cases e
  refine I.call' (s' := { s with heap := h', toks := t' }) (ch := fp) rfl ⟨fun b o e n hb hx => k b o hx e, fun b o e n hb hx => ⟨o.slots, k b o hx e⟩, fun _ _ _ n _ => n, fun b o e hx => ⟨o, k b o hx e⟩, fun _ _ q => q, fun _ _ _ q => q, fun _ ps q => ⟨#[], by rw [q]; simp⟩⟩ ?_ I.bare fun b hb => ⟨(hf b hb).2.2.2.1, (hf b hb).2.1, (hf b hb).2.2.2.2.1, (hf b hb).2.2.2.2.2⟩
  intro b u e
  refine (I.hok b u e).stay (fun c v hc q => k c v ?_ q) (fun _ q => q) fun _ _ q => q
  rcases hc with z | z
  · rw [z]; exact nit b u e
  · exact nit c _ z
end
def ItB (b : Bool) (h : Heap) (it l : Addr) (i : Nat) : Prop := ∃ o, h.get? it = some o ∧ o.cls = .type (cond b "list_iterator" "tuple_iterator") ∧ o.data = .fields #[.ref l, .int i 0]
def SqB (b : Bool) (h : Heap) (l : Addr) (items : Array Value) : Prop := ∃ o, h.get? l = some o ∧ o.cls = .type (cond b "list" "tuple") ∧ ∃ n, o.data = .seq items n
theorem ItB.at {b : Bool} {h h' : Heap} {it l : Addr} {i : Nat} (x : ItB b h it l i) (k : ∀ o, h.get? it = some o → h'.get? it = some o) : ItB b h' it l i := let ⟨o, e, r⟩ := x; ⟨o, k o e, r⟩
theorem SqB.at {b : Bool} {h h' : Heap} {l : Addr} {items : Array Value} (x : SqB b h l items) (k : ∀ o, h.get? l = some o → h'.get? l = some o) : SqB b h' l items := let ⟨o, e, r⟩ := x; ⟨o, k o e, r⟩
section
variable {prog : Program} {w : World} {A : Around} {E : Value → Shared → Prop} {s : Shared}
theorem nx_tup_item {it t : Addr} {i : Nat} {items : Array Value} {x : Value} {Q : Value → Shared → Prop} (hit : s.heap.IsTupleIter it t i) (ht : s.heap.IsTuple t items) (hx : items[i]? = some x)
    (hQ : ∀ h', h'.IsTupleIter it t (i + 1) → Heap.SameBut it s.heap h' → Q x { s with heap := h' }) : wpAny (model prog w) A (Builtin.SmallTypes.nextOf (.ref it)) Q E s := by
  obtain ⟨o, ho, hc, hd⟩ := id hit
  obtain ⟨ol, hol, _, nl, hdl⟩ := ht
  unfold Builtin.SmallTypes.nextOf
  refine wpAny_bind (wpAny_callSpecial?_slot (name := Str.ofString "__next__") hit.typeIs F.slot_tuple_iterator_next
    (wpAny_call_entry F.slot_tuple_iterator_next hit.typeIs F.entry_tuple_iterator_next ?_ (F.args_tuple_iterator_next_1 _)))
  show wpAny _ _ (field (.ref it) 0 >>= _) _ _ s
  refine wpAny_bind (wpAny_field ho hd (x := .ref t) rfl ?_)
  show wpAny _ _ (if (Value.ref t == Value.none) = true then _ else _) _ _ s
  rw [if_neg (show ¬ ((Value.ref t == Value.none) = true) from Bool.false_ne_true)]
  show wpAny _ _ (field (.ref it) 1 >>= _) _ _ s
  refine wpAny_bind (wpAny_field ho hd (x := .int i 0) rfl ?_)
  show wpAny _ _ (seqItems? (.ref t) >>= _) _ _ s
  refine wpAny_bind (wpAny_seqItems hol hdl ?_)
  simp only [Int.toNat_natCast, hx]
  refine wpAny_bind (wpAny_setField ho hd (by simp) (wpAny_pure ⟨x, rfl, wpAny_pure (hQ _ ?_ (Heap.SameBut.update ..))⟩))
  exact ⟨_, Heap.get?_update_self _ ho (Obj.isFreed_of_fields (Obj.data_mapFields hd _)), (Obj.cls_mapFields ..).trans hc, by
    rw [Obj.data_mapFields hd]; simp [rawInt]⟩
theorem nx_tup_end {it t : Addr} {i : Nat} {items : Array Value} {Q : Value → Shared → Prop} (hh : A.handled = none) (hit : s.heap.IsTupleIter it t i) (ht : s.heap.IsTuple t items) (hx : items[i]? = none)
    (hE : ∀ h' e, Heap.ExtBut it s.heap h' → (∃ o, h'.get? e = some o ∧ o.cls = .type "StopIteration") → E (.ref e) { s with heap := h' }) : wpAny (model prog w) A (Builtin.SmallTypes.nextOf (.ref it)) Q E s := by
  obtain ⟨o, ho, hc, hd⟩ := id hit
  obtain ⟨ol, hol, _, nl, hdl⟩ := ht
  unfold Builtin.SmallTypes.nextOf
  refine wpAny_bind (wpAny_callSpecial?_slot (name := Str.ofString "__next__") hit.typeIs F.slot_tuple_iterator_next
    (wpAny_call_entry F.slot_tuple_iterator_next hit.typeIs F.entry_tuple_iterator_next ?_ (F.args_tuple_iterator_next_1 _)))
  show wpAny _ _ (field (.ref it) 0 >>= _) _ _ s
  refine wpAny_bind (wpAny_field ho hd (x := .ref t) rfl ?_)
  show wpAny _ _ (if (Value.ref t == Value.none) = true then _ else _) _ _ s
  rw [if_neg (show ¬ ((Value.ref t == Value.none) = true) from Bool.false_ne_true)]
  show wpAny _ _ (field (.ref it) 1 >>= _) _ _ s
  refine wpAny_bind (wpAny_field ho hd (x := .int i 0) rfl ?_)
  show wpAny _ _ (seqItems? (.ref t) >>= _) _ _ s
  refine wpAny_bind (wpAny_seqItems hol hdl ?_)
  simp only [Int.toNat_natCast, hx]
  refine wpAny_bind (wpAny_rule (wpAny_bind (wpAny_setField ho hd (by simp) ?_)))
  show wpAny _ _ (newExc (.type "StopIteration") [] >>= _) _ _ _
  refine wpAny_bind ?_
  simp only [newExc, newTuple]
  refine wpAny_bind (wpAny_newObj_type ?_ (by size_fits))
  refine wpAny_bind (m := firstArgMember _ _) (wpAny_of_eq (a := Value.none) (by first | rfl | (simp only [firstArgMember]; rfl)) ?_)
  refine wpAny_newObj_type ?_ (by size_fits)
  simp only [raiseNew]
  refine wpAny_bind (wpAny_handled ?_)
  first | rw [show A.in1.handled = none from hh] | rw [hh]
  refine wpAny_bind (wpAny_pure (wpAny_throw ?_))
  exact hE _ _ (((Heap.SameBut.update ..).extBut.push _).push _) ⟨_, Heap.get?_push_size _ rfl, rfl⟩
theorem nx_item {b : Bool} {it l : Addr} {i : Nat} {items : Array Value} {x : Value} {Q : Value → Shared → Prop} (hit : ItB b s.heap it l i) (hl : SqB b s.heap l items) (hx : items[i]? = some x)
    (hQ : ∀ h', ItB b h' it l (i + 1) → Heap.SameBut it s.heap h' → Q x { s with heap := h' }) : wpAny (model prog w) A (Builtin.SmallTypes.nextOf (.ref it)) Q E s := by
  cases b with
  | true => exact wpAny_nextOf_list_item hit hl hx hQ
  | false => exact nx_tup_item hit hl hx hQ
theorem nx_end {b : Bool} {it l : Addr} {i : Nat} {items : Array Value} {Q : Value → Shared → Prop} (hh : A.handled = none) (hit : ItB b s.heap it l i) (hl : SqB b s.heap l items) (hx : items[i]? = none)
    (hE : ∀ h' e, Heap.ExtBut it s.heap h' → (∃ o, h'.get? e = some o ∧ o.cls = .type "StopIteration") → E (.ref e) { s with heap := h' }) : wpAny (model prog w) A (Builtin.SmallTypes.nextOf (.ref it)) Q E s := by
  cases b with
  | true => exact wpAny_nextOf_list_end hh hit hl hx hE
  | false => exact nx_tup_end hh hit hl hx hE
def itO (b : Bool) (l : Addr) : Obj := { cls := .type (cond b "list_iterator" "tuple_iterator"), data := .fields #[.ref l, .int 0 0] }
theorem iterB {b : Bool} {l : Addr} {items : Array Value} {Q : Value → Shared → Prop} (hl : SqB b s.heap l items) (hQ : Q (.ref s.heap.objs.size) { s with heap := s.heap.push (itO b l) }) : wpAny (model prog w) A (pyIter (.ref l)) Q E s := by
  cases b with
  | true => exact wpAny_pyIter_list hl hQ
  | false => exact wpAny_pyIter_tuple hl hQ
theorem zipB_item {b1 b2 : Bool} {z TI TO i1 i2 l1 l2 : Addr} {k : Nat} {xs ys : Array Value} {x y a b : Value} {Q : Option Value → Shared → Prop} (D : ZipApart z TI TO i1 i2 l1 l2)
    (hz : IsZip s.heap z TI TO .none) (hTI : IsPair s.heap TI (.ref i1) (.ref i2)) (hTO : IsPair s.heap TO a b)
    (h1 : ItB b1 s.heap i1 l1 k) (h2 : ItB b2 s.heap i2 l2 k) (hl1 : SqB b1 s.heap l1 xs) (hl2 : SqB b2 s.heap l2 ys) (hx : xs[k]? = some x) (hy : ys[k]? = some y)
    (hQ : ∀ h', IsZip h' z TI TO (rawInt s.heap.objs.size) → IsPair h' TO x y → ItB b1 h' i1 l1 (k + 1) → ItB b2 h' i2 l2 (k + 1) → IsPair h' s.heap.objs.size x y →
      (∀ c o, c ≠ z → c ≠ TO → c ≠ i1 → c ≠ i2 → s.heap.get? c = some o → h'.get? c = some o) → Q (some (.ref s.heap.objs.size)) { s with heap := h' }) :
    wpAny (model prog w) A (pyNext (.ref z)) Q E s := by
  have hT : s.TypeIs (.ref z) "zip" := ⟨_, hz, rfl⟩
  unfold pyNext
  refine wpAny_bind (wpAny_attempt (wpAny_callSpecial?_slot (name := Str.ofString "__next__") hT F.slot_zip_next (wpAny_call_entry F.slot_zip_next hT F.entry_zip_next ?_ (F.args_zip_next_1 _))))
  show wpAny _ _ (field (.ref z) 2 >>= _) _ _ _
  refine wpAny_bind (wpAny_field hz rfl (x := .bool false) rfl ?_)
  show wpAny _ _ (field (.ref z) 3 >>= _) _ _ _
  refine wpAny_bind (wpAny_field hz rfl (x := .ref TI) rfl ?_)
  refine wpAny_bind (wpAny_seqItems hTI rfl ?_)
  show wpAny _ _ (Builtin.SmallTypes.ownedTupleIsFree (.ref z) >>= _) _ _ _
  refine wpAny_bind ?_
  unfold Builtin.SmallTypes.ownedTupleIsFree
  refine wpAny_bind (wpAny_field hz rfl (x := .none) rfl (wpAny_pure ?_))
  simp only [if_true]
  refine wpAny_bind (wpAny_rule ?_)
  refine wpAny_bind (wpAny_field hz rfl (x := .ref TO) rfl ?_)
  refine wpAny_bind (wpAny_setField_rec hz (by simp) fun g1 hz1 s1 => ?_)
  replace hz1 : IsZip g1 z TI TO .ellipsis := hz1
  refine wpAny_bind ?_
  simp only [List.zipIdx_cons, List.zipIdx_nil, List.forIn_cons, List.forIn_nil]
  refine wpAny_bind (wpAny_bind (wpAny_onRaise ?_))
  show wpAny _ _ (Builtin.SmallTypes.nextOf (.ref i1) >>= _) _ _ _
  refine wpAny_bind (nx_item (h1.at fun o e => s1.extBut _ _ D.i1z e) (hl1.at fun o e => s1.extBut _ _ D.l1z e) hx fun g2 h12 s2 => wpAny_pure ?_)
  have hTO2 : IsPair g2 TO a b := s2.extBut _ _ D.TOi1 (s1.extBut _ _ D.TOz hTO)
  refine wpAny_bind (wpAny_seqItems hTO2 rfl ?_)
  refine wpAny_bind (wpAny_updateSeq_pair hTO2 fun g3 hTO3 s3 => ?_)
  replace hTO3 : IsPair g3 TO x b := hTO3
  refine wpAny_bind (wpAny_letGo (wpAny_pure ?_))
  refine wpAny_bind (wpAny_bind (wpAny_onRaise ?_))
  show wpAny _ _ (Builtin.SmallTypes.nextOf (.ref i2) >>= _) _ _ _
  refine wpAny_bind (nx_item (h2.at fun o e => s3.extBut _ _ D.TOi2.symm (s2.extBut _ _ D.i12.symm (s1.extBut _ _ D.i2z e))) (hl2.at fun o e => s3.extBut _ _ D.l2TO (s2.extBut _ _ D.l2i1 (s1.extBut _ _ D.l2z e))) hy fun g4 h24 s4 => wpAny_pure ?_)
  have hTO4 : IsPair g4 TO x b := s4.extBut _ _ D.TOi2 hTO3
  refine wpAny_bind (wpAny_seqItems hTO4 rfl ?_)
  refine wpAny_bind (wpAny_updateSeq_pair hTO4 fun g5 hTO5 s5 => ?_)
  replace hTO5 : IsPair g5 TO x y := hTO5
  refine wpAny_bind (wpAny_letGo (wpAny_pure (wpAny_pure ?_)))
  refine wpAny_bind (wpAny_seqItems hTO5 rfl ?_)
  refine wpAny_bind (wpAny_newTuple ?_)
  have hsz : g5.objs.size = s.heap.objs.size := by rw [s5.1, s4.1, s3.1, s2.1, s1.1]
  have hz5 : IsZip g5 z TI TO .ellipsis := s5.extBut _ _ D.TOz.symm (s4.extBut _ _ D.i2z.symm (s3.extBut _ _ D.TOz.symm (s2.extBut _ _ D.i1z.symm hz1)))
  have h15 : ItB b1 g5 i1 l1 (k + 1) := h12.at fun o e => s5.extBut _ _ D.TOi1.symm (s4.extBut _ _ D.i12 (s3.extBut _ _ D.TOi1.symm e))
  have h25 : ItB b2 g5 i2 l2 (k + 1) := h24.at fun o e => s5.extBut _ _ D.TOi2.symm e
  have hzlt : z < g5.objs.size := Heap.lt_size hz5
  show wpAny _ _ (Builtin.SmallTypes.ownedTupleHandOut (.ref z) (.ref g5.objs.size) >>= _) _ _ _
  refine wpAny_bind ?_
  unfold Builtin.SmallTypes.ownedTupleHandOut
  have hz6 : IsZip (g5.push { cls := .type "tuple", data := .seq #[x, y] }) z TI TO .ellipsis := Heap.get?_push_of_some _ hz5
  refine wpAny_bind (wpAny_setField_rec hz6 (by simp) fun g7 hz7 s7 => ?_)
  replace hz7 : IsZip g7 z TI TO (rawInt g5.objs.size) := hz7
  refine wpAny_setField_rec hz7 (by simp) fun g8 hz8 s8 => ?_
  replace hz8 : IsZip g8 z TI TO (rawInt g5.objs.size) := hz8
  have up : ∀ c o, c ≠ z → g5.get? c = some o → g8.get? c = some o := fun c o c1 e => s8.extBut _ _ c1 (s7.extBut _ _ c1 (Heap.get?_push_of_some _ e))
  have hT8 : IsPair g8 g5.objs.size x y := s8.extBut _ _ (Nat.ne_of_gt hzlt) (s7.extBut _ _ (Nat.ne_of_gt hzlt) (Heap.get?_push_size _ rfl))
  rw [hsz] at hz8 hT8
  refine wpAny_pure ⟨_, rfl, wpAny_pure ?_⟩
  show Q (some (.ref g5.objs.size)) _
  rw [hsz]
  exact hQ g8 hz8 (up _ _ D.TOz hTO5) (h15.at fun o e => up _ o D.i1z e) (h25.at fun o e => up _ o D.i2z e) hT8 fun c o c1 c2 c3 c4 e =>
    up c o c1 (s5.extBut _ _ c2 (s4.extBut _ _ c4 (s3.extBut _ _ c2 (s2.extBut _ _ c3 (s1.extBut _ _ c1 e)))))
theorem zipB_end {b1 b2 : Bool} {z TI TO i1 i2 l1 l2 : Addr} {k : Nat} {xs ys : Array Value} {a b : Value} {Q : Option Value → Shared → Prop} (hh : A.handled = none) (D : ZipApart z TI TO i1 i2 l1 l2)
    (hz : IsZip s.heap z TI TO .none) (hTI : IsPair s.heap TI (.ref i1) (.ref i2)) (hTO : IsPair s.heap TO a b)
    (h1 : ItB b1 s.heap i1 l1 k) (h2 : ItB b2 s.heap i2 l2 k) (hl1 : SqB b1 s.heap l1 xs) (hl2 : SqB b2 s.heap l2 ys) (hend : xs[k]? = none ∨ ys[k]? = none)
    (hQ : ∀ h', (∀ c o, c ≠ z → c ≠ TO → c ≠ i1 → c ≠ i2 → s.heap.get? c = some o → h'.get? c = some o) → Q none { s with heap := h' }) : wpAny (model prog w) A (pyNext (.ref z)) Q E s := by
  have hT : s.TypeIs (.ref z) "zip" := ⟨_, hz, rfl⟩
  unfold pyNext
  have fin : ∀ (h' : Heap) (e : Addr), (∀ c o, c ≠ z → c ≠ TO → c ≠ i1 → c ≠ i2 → s.heap.get? c = some o → h'.get? c = some o) → (∃ o, h'.get? e = some o ∧ o.cls = .type "StopIteration") →
      wpAny (model prog w) A (isInstance (.ref e) (.type "StopIteration") >>= fun b => if b = true then pure none else throw (.ref e)) Q E { s with heap := h' } := fun h' e hk he => by
    obtain ⟨o, ho, hc⟩ := he
    refine wpAny_bind (wpAny_isInstance (T := "StopIteration") (b := true) ⟨o, ho, hc⟩ isSubtype_stop ?_)
    exact wpAny_pure (hQ _ hk)
  refine wpAny_bind (wpAny_attempt (wpAny_callSpecial?_slot (name := Str.ofString "__next__") hT F.slot_zip_next (wpAny_call_entry F.slot_zip_next hT F.entry_zip_next ?_ (F.args_zip_next_1 _))))
  show wpAny _ _ (field (.ref z) 2 >>= _) _ _ _
  refine wpAny_bind (wpAny_field hz rfl (x := .bool false) rfl ?_)
  show wpAny _ _ (field (.ref z) 3 >>= _) _ _ _
  refine wpAny_bind (wpAny_field hz rfl (x := .ref TI) rfl ?_)
  refine wpAny_bind (wpAny_seqItems hTI rfl ?_)
  show wpAny _ _ (Builtin.SmallTypes.ownedTupleIsFree (.ref z) >>= _) _ _ _
  refine wpAny_bind ?_
  unfold Builtin.SmallTypes.ownedTupleIsFree
  refine wpAny_bind (wpAny_field hz rfl (x := .none) rfl (wpAny_pure ?_))
  simp only [if_true]
  refine wpAny_bind (wpAny_rule ?_)
  refine wpAny_bind (wpAny_field hz rfl (x := .ref TO) rfl ?_)
  refine wpAny_bind (wpAny_setField_rec hz (by simp) fun g1 hz1 s1 => ?_)
  replace hz1 : IsZip g1 z TI TO .ellipsis := hz1
  refine wpAny_bind ?_
  simp only [List.zipIdx_cons, List.zipIdx_nil, List.forIn_cons, List.forIn_nil]
  refine wpAny_bind (wpAny_bind (wpAny_onRaise ?_))
  show wpAny _ _ (Builtin.SmallTypes.nextOf (.ref i1) >>= _) _ _ _
  cases hx : xs[k]? with
  | none =>
    refine wpAny_bind (nx_end hh (h1.at fun o e => s1.extBut _ _ D.i1z e) (hl1.at fun o e => s1.extBut _ _ D.l1z e) hx fun g2 e s2 he => ?_)
    obtain ⟨oe, hoe, hce⟩ := he
    have hz2 : IsZip g2 z TI TO .ellipsis := s2 _ _ D.i1z.symm hz1
    have hez : e ≠ z := fun x => by subst x; rw [hz2] at hoe; cases hoe; simp at hce
    exact wpAny_setField_rec hz2 (by simp) fun g3 _ s3 => fin g3 e (fun c o c1 _ c3 _ x => s3.extBut _ _ c1 (s2 _ _ c3 (s1.extBut _ _ c1 x))) ⟨oe, s3.extBut _ _ hez hoe, hce⟩
  | some x =>
    have hy : ys[k]? = none := by
      rcases hend with h | h
      · rw [hx] at h; cases h
      · exact h
    refine wpAny_bind (nx_item (h1.at fun o e => s1.extBut _ _ D.i1z e) (hl1.at fun o e => s1.extBut _ _ D.l1z e) hx fun g2 h12 s2 => wpAny_pure ?_)
    have hTO2 : IsPair g2 TO a b := s2.extBut _ _ D.TOi1 (s1.extBut _ _ D.TOz hTO)
    refine wpAny_bind (wpAny_seqItems hTO2 rfl ?_)
    refine wpAny_bind (wpAny_updateSeq_pair hTO2 fun g3 hTO3 s3 => ?_)
    refine wpAny_bind (wpAny_letGo (wpAny_pure ?_))
    refine wpAny_bind (wpAny_bind (wpAny_onRaise ?_))
    show wpAny _ _ (Builtin.SmallTypes.nextOf (.ref i2) >>= _) _ _ _
    refine wpAny_bind (nx_end hh (h2.at fun o e => s3.extBut _ _ D.TOi2.symm (s2.extBut _ _ D.i12.symm (s1.extBut _ _ D.i2z e))) (hl2.at fun o e => s3.extBut _ _ D.l2TO (s2.extBut _ _ D.l2i1 (s1.extBut _ _ D.l2z e))) hy fun g4 e s4 he => ?_)
    obtain ⟨oe, hoe, hce⟩ := he
    have hz4 : IsZip g4 z TI TO .ellipsis := s4 _ _ D.i2z.symm (s3.extBut _ _ D.TOz.symm (s2.extBut _ _ D.i1z.symm hz1))
    have hez : e ≠ z := fun x => by subst x; rw [hz4] at hoe; cases hoe; simp at hce
    exact wpAny_setField_rec hz4 (by simp) fun g5 _ s5 => fin g5 e (fun c o c1 c2 c3 c4 x => s5.extBut _ _ c1 (s4 _ _ c4 (s3.extBut _ _ c2 (s2.extBut _ _ c3 (s1.extBut _ _ c1 x))))) ⟨oe, s5.extBut _ _ hez hoe, hce⟩
abbrev zB1 (b1 : Bool) (h : Heap) (l1 : Addr) : Heap := h.push (itO b1 l1)
abbrev zB2 (b1 b2 : Bool) (h : Heap) (l1 l2 : Addr) : Heap := (zB1 b1 h l1).push (itO b2 l2)
abbrev zB3 (b1 b2 : Bool) (h : Heap) (l1 l2 : Addr) : Heap := (zB2 b1 b2 h l1 l2).push { cls := .type "tuple", data := .seq #[.ref h.objs.size, .ref (zB1 b1 h l1).objs.size] }
abbrev zB4 (b1 b2 : Bool) (h : Heap) (l1 l2 : Addr) : Heap := (zB3 b1 b2 h l1 l2).push { cls := .type "tuple", data := .seq #[.none, .none] }
abbrev zB5 (b1 b2 : Bool) (h : Heap) (l1 l2 : Addr) : Heap := (zB4 b1 b2 h l1 l2).push { cls := .type "zip", data := .fields #[.none, .bool false, .bool false, .ref (zB2 b1 b2 h l1 l2).objs.size, .ref (zB3 b1 b2 h l1 l2).objs.size] }
theorem zipB_meets (b1 b2 : Bool) (l1 l2 : Addr) (xs ys : Array Value) :
    Meets (Builtin.«zip.__new__» ⟨[.type "zip", .ref l1, .ref l2], []⟩) (fun _ R s => SqB b1 s.heap l1 xs ∧ SqB b2 s.heap l2 ys ∧
      R (.ok (.ret (.ref (zB4 b1 b2 s.heap l1 l2).objs.size))) { s with heap := zB5 b1 b2 s.heap l1 l2 }) :=
  .of_wp fun prog w A R s h => by
    obtain ⟨hp, g, d, tk, os⟩ := s; obtain ⟨hl1, hl2, h⟩ := h
    have hsub := sub_zip
    have hL1 : SqB b1 (Shared.heap ⟨hp, g, d, tk, os⟩) l1 xs := hl1
    have hL2 : SqB b2 (Shared.heap ⟨hp.push (itO b1 l1), g, d, tk, os⟩) l2 ys := hl2.at fun o e => Heap.get?_push_of_some _ e
    wp_walk using iterB hL1, iterB hL2
    exact ⟨_, rfl, h⟩
theorem zipB_new {b1 b2 : Bool} {l1 l2 : Addr} {xs ys : Array Value} {Q : Value → Shared → Prop} (hl1 : SqB b1 s.heap l1 xs) (hl2 : SqB b2 s.heap l2 ys)
    (h : ∀ h', IsZip h' (s.heap.objs.size + 4) (s.heap.objs.size + 2) (s.heap.objs.size + 3) .none → IsPair h' (s.heap.objs.size + 2) (.ref s.heap.objs.size) (.ref (s.heap.objs.size + 1)) →
      IsPair h' (s.heap.objs.size + 3) .none .none → ItB b1 h' s.heap.objs.size l1 0 → ItB b2 h' (s.heap.objs.size + 1) l2 0 →
      (∀ c o, s.heap.get? c = some o → h'.get? c = some o) → Q (.ref (s.heap.objs.size + 4)) { s with heap := h' }) :
    wpAny (model prog w) A (call (.type "zip") [.ref l1, .ref l2]) Q E s := by
  refine callType_new F.called_zip (by decide) (F.typeCall_zip_2 _ _) (F.newCall_zip_2 _ _) (fun obj => F.args_object_init_3 obj _ _) F.entry_zip_new
    (zipB_meets b1 b2 l1 l2 xs ys) ⟨hl1, hl2, ?_⟩
  have z1 : (zB1 b1 s.heap l1).objs.size = s.heap.objs.size + 1 := Heap.size_push ..
  have z2 : (zB2 b1 b2 s.heap l1 l2).objs.size = s.heap.objs.size + 2 := by rw [Heap.size_push, z1]
  have z3 : (zB3 b1 b2 s.heap l1 l2).objs.size = s.heap.objs.size + 3 := by rw [Heap.size_push, z2]
  have z4 : (zB4 b1 b2 s.heap l1 l2).objs.size = s.heap.objs.size + 4 := by rw [Heap.size_push, z3]
  have g5 : (zB5 b1 b2 s.heap l1 l2).get? (zB4 b1 b2 s.heap l1 l2).objs.size = some _ := Heap.get?_push_size _ rfl
  have g4 : (zB5 b1 b2 s.heap l1 l2).get? (zB3 b1 b2 s.heap l1 l2).objs.size = some _ := Heap.get?_push_of_some _ (Heap.get?_push_size _ rfl)
  have g3 : (zB5 b1 b2 s.heap l1 l2).get? (zB2 b1 b2 s.heap l1 l2).objs.size = some _ := Heap.get?_push_of_some _ (Heap.get?_push_of_some _ (Heap.get?_push_size _ rfl))
  have g2 : (zB5 b1 b2 s.heap l1 l2).get? (zB1 b1 s.heap l1).objs.size = some (itO b2 l2) := Heap.get?_push_of_some _ (Heap.get?_push_of_some _ (Heap.get?_push_of_some _ (Heap.get?_push_size _ rfl)))
  have g1 : (zB5 b1 b2 s.heap l1 l2).get? s.heap.objs.size = some (itO b1 l1) := Heap.get?_push_of_some _ (Heap.get?_push_of_some _ (Heap.get?_push_of_some _ (Heap.get?_push_of_some _ (Heap.get?_push_size _ rfl))))
  show _ ∧ _
  rw [z2, z3, z4] at g5
  rw [z1, z2] at g3
  rw [z3] at g4
  rw [z1] at g2
  rw [z4]
  exact ⟨⟨_, g5, rfl⟩, h _ g5 g3 g4 ⟨_, g1, rfl, rfl⟩ ⟨_, g2, rfl, rfl⟩ fun c o x =>
    Heap.get?_push_of_some _ (Heap.get?_push_of_some _ (Heap.get?_push_of_some _ (Heap.get?_push_of_some _ (Heap.get?_push_of_some _ x))))⟩
end
def SqK (b : Bool) (K : PySem.W.Frag) (H : Hp) (l : Addr) (xs : List V) : Prop := match b with
  | true => SqL K H l xs
  | false => SqT K H l xs
theorem Inv.seqB {X : Cx} {pins : List (Addr × Obj)} {σ : St} {H : Hp} {s : Shared} {b : Bool} {l : Addr} {xs : List V} (I : Inv X pins σ H s) (h : SqK b X.K H l xs) : ∃ its : List Value, Vals xs its ∧ SqB b s.heap l its.toArray ∧ xs.length ≤ sizeLine := by
  cases b with
  | true =>
    obtain ⟨its, r, p, z⟩ := I.list h
    exact ⟨its, r, p.isList, z⟩
  | false =>
    obtain ⟨its, r, p, z⟩ := I.tuple h
    exact ⟨its, r, p, z⟩
theorem Inv.seqB_inj {X : Cx} {pins : List (Addr × Obj)} {σ : St} {H : Hp} {s : Shared} {b : Bool} {l : Addr} {xs ys : List V} (I : Inv X pins σ H s) (h : SqK b X.K H l xs) (h' : SqK b X.K H l ys) : xs = ys := by
  cases b with
  | true => exact I.list_inj h h'
  | false => exact I.tuple_inj h h'
def Itz (K : PySem.W.Frag) (b1 b2 : Bool) (l1 l2 : Addr) : It :=
  ⟨fun i H => ∃ xs ys x y, SqK b1 K H l1 xs ∧ SqK b2 K H l2 ys ∧ xs[i]? = some x ∧ ys[i]? = some y,
   fun i H v H' => ∃ p x y, v = .ref p ∧ H p = none ∧ H' = upd H p (.tup [x, y]) ∧ (∀ xs, SqK b1 K H l1 xs → xs[i]? = some x) ∧ ∀ ys, SqK b2 K H l2 ys → ys[i]? = some y,
   fun i H => ∃ xs ys, SqK b1 K H l1 xs ∧ SqK b2 K H l2 ys ∧ (xs.length ≤ i ∨ ys.length ≤ i)⟩
theorem turn_zip {P : Program} {w : World} {K : PySem.W.Frag} {elts : List Expr} {kk : Nat} {tpos : Pos} {b1 b2 : Bool} {z TI TO i1 i2 l1 l2 : Addr} (D : ZipApart z TI TO i1 i2 l1 l2) :
    Turn P w K (.Tuple elts kk tpos) (Itz K b1 b2 l1 l2) [z, TI, TO, i1, i2] z (fun i h => IsZip h z TI TO .none ∧ IsPair h TI (.ref i1) (.ref i2) ∧ (∃ a b, IsPair h TO a b) ∧ ItB b1 h i1 l1 i ∧ ItB b2 h i2 l2 i) where
  mem := by simp
  obj := fun i h st b hb => by
    obtain ⟨hz, hTI, ⟨a, c, hTO⟩, ⟨o1, e1, _, d1⟩, ⟨o2, e2, _, d2⟩⟩ := st
    simp only [List.mem_cons, List.not_mem_nil, or_false] at hb
    rcases hb with rfl | rfl | rfl | rfl | rfl
    · exact ⟨_, hz, fun v z => by cases z⟩
    · exact ⟨_, hTI, fun v z => by cases z⟩
    · exact ⟨_, hTO, fun v z => by cases z⟩
    · exact ⟨_, e1, fun v z => by rw [d1] at z; cases z⟩
    · exact ⟨_, e2, fun v z => by rw [d2] at z; cases z⟩
  keep := fun i h h' st k => by
    obtain ⟨hz, hTI, ⟨a, c, hTO⟩, h1, h2⟩ := st
    exact ⟨k z (by simp) _ hz, k TI (by simp) _ hTI, ⟨a, c, k TO (by simp) _ hTO⟩, h1.at fun o e => k i1 (by simp) o e, h2.at fun o e => k i2 (by simp) o e⟩
  item := by
    intro X hP hw hK hc i pins s σ H E I hf st hg
    subst hP hw hK
    obtain ⟨xs, ys, x, y, hq1, hq2, hx, hy⟩ := hg
    obtain ⟨us, r1, p1, _⟩ := I.seqB hq1
    obtain ⟨ws, r2, p2, _⟩ := I.seqB hq2
    obtain ⟨u, hu, ru⟩ := r1.get hx
    obtain ⟨v, hv, rv⟩ := r2.get hy
    obtain ⟨hz, hTI, ⟨a, b, hTO⟩, h1, h2⟩ := st
    refine zipB_item D hz hTI hTO h1 h2 p1 p2 (x := u) (y := v) (by simpa using hu) (by simpa using hv) fun h' z' TO' h1' h2' pT kk' => ?_
    refine ⟨.ref s.heap.objs.size, rfl, wpAny_letOwnedTupleGo_zip (s := { s with heap := h' }) z' fun h'' z'' sb => ?_⟩
    replace sb : Heap.SameBut z h' h'' := sb
    have k2 : ∀ c o, c ∉ [z, TI, TO, i1, i2] → s.heap.get? c = some o → h''.get? c = some o := fun c o hc e => by
      simp only [List.mem_cons, List.not_mem_nil, or_false, not_or] at hc
      exact sb.extBut _ _ hc.1 (kk' c o hc.1 hc.2.2.1 hc.2.2.2.1 hc.2.2.2.2 e)
    have I1 : Inv X pins σ H { s with heap := h'' } := I.turnedL (t' := s.toks) k2 hf
    have zlt : z < s.heap.objs.size := Heap.lt_size hz
    have pT2 : IsPair h'' s.heap.objs.size u v := sb.extBut _ _ (Nat.ne_of_gt zlt) pT
    have fo := I.fpOk (b := s.heap.objs.size) (Nat.le_refl _) (I.hok.fresh (Nat.le_refl _))
    have nT : H s.heap.objs.size = none := I.hok.fresh (Nat.le_refl _)
    have I2 : Inv X pins σ (upd H s.heap.objs.size (.tup [x, y])) { s with heap := h'' } := by
      refine I1.track ?_ fo.2.1 fo.2.2.2.2.1 fo.2.2.2.2.2 nT ⟨two_line, [u, v], .cons ru (.cons rv .nil), ⟨_, pT2, rfl, 0, rfl⟩⟩
      cases q : X.s₀.heap.get? s.heap.objs.size with
      | none => rfl
      | some o => exact absurd (Nat.lt_of_lt_of_le (Heap.lt_size q) I.sz) (Nat.lt_irrefl _)
    have ne : ∀ b ∈ [z, TI, TO, i1, i2], b ≠ s.heap.objs.size := fun b hb e => by
      have lt : b < s.heap.objs.size := by
        simp only [List.mem_cons, List.not_mem_nil, or_false] at hb
        rcases hb with rfl | rfl | rfl | rfl | rfl
        · exact zlt
        · exact Heap.lt_size hTI
        · exact Heap.lt_size hTO
        · obtain ⟨_, e, _⟩ := h1; exact Heap.lt_size e
        · obtain ⟨_, e, _⟩ := h2; exact Heap.lt_size e
      exact Nat.ne_of_lt lt e
    refine ⟨.ref s.heap.objs.size, _, I2, rfl, ⟨_, x, y, rfl, nT, rfl, fun xs' h => by rw [I.seqB_inj h hq1]; exact hx, fun ys' h => by rw [I.seqB_inj h hq2]; exact hy⟩,
      ⟨z'', sb.extBut _ _ D.TIz (kk' _ _ D.TIz D.TITO D.TIi1 D.TIi2 hTI), ⟨_, _, sb.extBut _ _ D.TOz TO'⟩, h1'.at fun o e => sb.extBut _ _ D.i1z e, h2'.at fun o e => sb.extBut _ _ D.i2z e⟩, fun b hb => by rw [upd_ne (ne b hb)]; exact (hf b hb).1⟩
  done := by
    intro X hP hw hK hc i pins s σ H E I hf st hg
    subst hP hw hK
    obtain ⟨xs, ys, hq1, hq2, hle⟩ := hg
    obtain ⟨us, r1, p1, _⟩ := I.seqB hq1
    obtain ⟨ws, r2, p2, _⟩ := I.seqB hq2
    obtain ⟨hz, hTI, ⟨a, b, hTO⟩, h1, h2⟩ := st
    have l1' := r1.length
    have l2' := r2.length
    refine zipB_end (I.ok.hd hc) D hz hTI hTO h1 h2 p1 p2 (by rcases hle with h | h <;> simp <;> omega) fun h' kk' => ⟨rfl, I.turnedL (t' := s.toks) (fun c o hc e => ?_) hf⟩
    simp only [List.mem_cons, List.not_mem_nil, or_false, not_or] at hc
    exact kk' c o hc.1 hc.2.2.1 hc.2.2.2.1 hc.2.2.2.2 e
  self := fun _ _ _ _ _ st h => wpAny_pyIter_zip st.1 h
def iZipF (K : PySem.W.Frag) (ta : TA) : TI := fun σ H R => ta σ H fun vs H1 => match vs with
  | [.ref l1, .ref l2] => (match H1 l1, H1 l2 with
    | some (.lst _), some (.lst _) => R (Itz K true true l1 l2) H1
    | some (.lst _), some (.tup _) => R (Itz K true false l1 l2) H1
    | some (.tup _), some (.lst _) => R (Itz K false true l1 l2) H1
    | some (.tup _), some (.tup _) => R (Itz K false false l1 l2) H1
    | _, _ => False)
  | _ => False
theorem pi_zip {X : Cx} {elts : List Expr} {kk : Nat} {tpos : Pos} {a b : Expr} {ta : TA} {p pos : Pos} (hg : Gl X "zip") (hm : X.mg "zip" = none) (ha : PA X [a, b] ta) (hs : starEach [a, b] X.env = [(false, eval a X.env), (false, eval b X.env)] := by rfl) (hs2 : starEach [b] X.env = [(false, eval b X.env)] := by rfl) :
    PI X (.Tuple elts kk tpos) (.Call (.Name "zip" p) [a, b] [] pos) (iZipF X.K ta) := by
  intro pins s σ H R I h
  refine Call_ (ld_blt I hg hm boot_zip (PyProof.Rows.callWith_type1 (thn (ha pos pins s σ H _ I h) fun us s1 ⟨vs, H1, I1, r1, q1⟩ => ?_) (by rw [hs, hs2]) (by rw [hs2]; rfl)))
  match vs, q1 with
  | [.ref l1, .ref l2], q1 =>
    obtain ⟨u, u', e0, e, e'⟩ := r1.two
    cases e
    cases e'
    subst e0
    have q : ∃ (b1 b2 : Bool) (xs ys : List V), SqK b1 X.K H1 l1 xs ∧ SqK b2 X.K H1 l2 ys ∧ R (Itz X.K b1 b2 l1 l2) H1 := by
      have q1' : (match H1 l1, H1 l2 with
        | some (.lst _), some (.lst _) => R (Itz X.K true true l1 l2) H1
        | some (.lst _), some (.tup _) => R (Itz X.K true false l1 l2) H1
        | some (.tup _), some (.lst _) => R (Itz X.K false true l1 l2) H1
        | some (.tup _), some (.tup _) => R (Itz X.K false false l1 l2) H1
        | _, _ => False) := q1
      split at q1'
      · rename_i e1 e2
        exact ⟨true, true, _, _, SqL.of e1, SqL.of e2, q1'⟩
      · rename_i e1 e2
        exact ⟨true, false, _, _, SqL.of e1, SqT.of e2, q1'⟩
      · rename_i e1 e2
        exact ⟨false, true, _, _, SqT.of e1, SqL.of e2, q1'⟩
      · rename_i e1 e2
        exact ⟨false, false, _, _, SqT.of e1, SqT.of e2, q1'⟩
      · exact q1'.elim
    obtain ⟨b1, b2, xs, ys, hq1, hq2, q⟩ := q
    obtain ⟨us, rr1, p1, _⟩ := I1.seqB hq1
    obtain ⟨ws, rr2, p2, _⟩ := I1.seqB hq2
    have L1 : l1 < s1.heap.objs.size := by obtain ⟨_, e, _⟩ := p1; exact Heap.lt_size e
    have L2 : l2 < s1.heap.objs.size := by obtain ⟨_, e, _⟩ := p2; exact Heap.lt_size e
    refine zipB_new p1 p2 fun h' hz hTI hTO h1 h2 hk => ?_
    refine wpAny_pyIter_zip (s := { s1 with heap := h' }) hz ?_
    have D : ZipApart (s1.heap.objs.size + 4) (s1.heap.objs.size + 2) (s1.heap.objs.size + 3) s1.heap.objs.size (s1.heap.objs.size + 1) l1 l2 := by
      generalize s1.heap.objs.size = n at L1 L2
      replace L1 : Nat.lt l1 n := L1
      replace L2 : Nat.lt l2 n := L2
      constructor <;> (intro e; have : (n : Nat) = n := rfl; simp only [Nat.lt_eq] at L1 L2; first | (have e' : (_ : Nat) = _ := e; omega))
    refine ⟨_, [s1.heap.objs.size + 4, s1.heap.objs.size + 2, s1.heap.objs.size + 3, s1.heap.objs.size, s1.heap.objs.size + 1], _, _, H1, rfl, I1.kept (t' := s1.toks) hk, turn_zip D, ⟨hz, hTI, ⟨_, _, hTO⟩, h1, h2⟩, fun b hb => ?_, q⟩
    have hb' : s1.heap.objs.size ≤ b := by
      simp only [List.mem_cons, List.not_mem_nil, or_false] at hb
      rcases hb with rfl | rfl | rfl | rfl | rfl
      · exact Nat.le_add_right _ _
      · exact Nat.le_add_right _ _
      · exact Nat.le_add_right _ _
      · exact Nat.le_refl _
      · exact Nat.le_add_right _ _
    exact I1.fpOk hb' (I1.hok.fresh hb')
theorem forW_zip {K : PySem.W.Frag} {b1 b2 : Bool} {l1 l2 : Addr} {xs ys : List V} {g : TG} {tb : TS} {D : Ends} {σ : St} {H : Hp} (Pv : Nat → St → Hp → Prop) (h0 : Pv 0 σ H) (hl : ∀ i σ H, Pv i σ H → SqK b1 K H l1 xs ∧ SqK b2 K H l2 ys)
    (hs : ∀ i x y σ H p H', xs[i]? = some x → ys[i]? = some y → Pv i σ H → H p = none → Same H H' → H' p = some (.tup [x, y]) → g (.ref p) σ H' fun σ2 H2 => tb { D with nx := Pv (i + 1), ct := Pv (i + 1), bk := D.nx } σ2 H2)
    (hd : ∀ σ H, Pv (min xs.length ys.length) σ H → D.nx σ H) : ForW (Itz K b1 b2 l1 l2) g tb D σ H := by
  refine ⟨fun i m σ H => m = min xs.length ys.length - i ∧ i ≤ min xs.length ys.length ∧ Pv i σ H, ⟨min xs.length ys.length, by simp, Nat.zero_le _, h0⟩, ?_⟩
  rintro i m σ H ⟨rfl, hi, p⟩
  obtain ⟨e1, e2⟩ := hl i σ H p
  by_cases hlt : i < min xs.length ys.length
  · have hx : xs[i]? = some (xs[i]'(by omega)) := List.getElem?_eq_getElem _
    have hy : ys[i]? = some (ys[i]'(by omega)) := List.getElem?_eq_getElem _
    refine .inr ⟨⟨xs, ys, _, _, e1, e2, hx, hy⟩, Pv (i + 1), fun σ' H' p' => ⟨min xs.length ys.length - (i + 1), by omega, rfl, hlt, p'⟩, fun v H' y => ?_⟩
    obtain ⟨q, x, y, rfl, nq, rfl, k1, k2⟩ := y
    exact hs i x y σ H q _ (k1 _ e1) (k2 _ e2) p nq (Same.upd nq) upd_same
  · have e : i = min xs.length ys.length := by omega
    subst e
    exact .inl ⟨⟨xs, ys, e1, e2, by omega⟩, hd σ H p⟩
end L2

namespace L2
open PySem PySem.Spec PyProof.Rows
def compCx2 (X : Cx) (scope : Scope) (cl : List (Str × Addr)) (C : Addr) (s₃ : Shared) (H₃ : Hp) (fp : List Addr) (x y : Str) : Cx where
  prog := X.prog
  w := X.w
  K := X.K
  mg := X.mg
  base := X.base
  A := X.A
  N := x :: y :: X.N
  s₀ := s₃
  H₀ := H₃
  env := compEnvC scope cl C X.env
  outer := X.stack
  stack := X.stack
  ex := fp
  fn := fun _ => false
  calm := X.calm
  pn := []
  xe := fun _ _ => False
structure CompScope2 (X : Cx) (scope : Scope) (x y : Str) : Prop where
  kind : scope.kind = .function
  nocell : ∀ y ∈ scope.names, y.2 ≠ .cell
  loc : ∀ y ∈ scope.names, y.2 = .local → scope.names.lookup y.1 = some .local
  own : scope.names.lookup x = some .local
  own2 : scope.names.lookup y = some .local
  free : ∀ y ∈ scope.names, y.2 = .free → X.env.kindOf y.1 = some .cell ∨ X.env.kindOf y.1 = some .free
  nd : (x :: y :: X.N).Nodup
  vis : ∀ y ∈ X.N, scope.names.lookup y ≠ some .local
def CompZW (J : It) (te : TE) (D : Addr) (σ : St) (H : Hp) (Q : VK) (_ : Tag Q) : Prop := ∃ (n : Nat) (W : Nat → List V → Hp → Prop), W 0 [] H ∧ ∀ i ys H, i ≤ n → W i ys H → H D = some (.lst ys) ∧
  ((J.stop i H ∧ Q (.ref D) H) ∨ (i < n ∧ J.go i H ∧ ys.length < sizeLine ∧ ∀ x H', J.yld i H x H' → ∃ p u v, x = .ref p ∧ H' p = some (.tup [u, v]) ∧ te (some u :: some v :: σ) H' fun y H2 => H2 D = some (.lst ys) ∧
    ∀ H3, SameB D H2 H3 → H3 D = some (.lst (ys ++ [y])) → W (i + 1) (ys ++ [y]) H3))
def tCompZ (wi : TI) (te : TE) : TE := fun σ H Q => wi σ H fun J H1 => ∀ D H2, H1 D = none → Same H1 H2 → H2 D = some (.lst []) → CompZW J te D σ H2 Q ⟨⟩
section
variable {X : Cx} {scope : Scope} {x y : Str} {cl : List (Str × Addr)} {pins : List (Addr × Obj)} {σ : St} {H : Hp} {s s₄ : Shared} {fp : List Addr}
theorem Inv.comp2 (S : CompScope2 X scope x y) (I : Inv X pins σ H s) (hcl : ∀ y c, cl.lookup y = some c → (y, NameKind.free) ∈ scope.names ∧ X.env.cells.lookup y = some c) (hcl2 : ∀ y, (y, NameKind.free) ∈ scope.names → cl.lookup y = X.env.cells.lookup y)
    (hfp : ∀ b ∈ fp, FpOk X pins H b) (hlt : ∀ b ∈ fp, b < s.heap.objs.size) {m : Str → Option Value} (hns : s₄.heap.Ns s.heap.objs.size m) (hk : ∀ b o, s.heap.get? b = some o → s₄.heap.get? b = some o) (hos : s₄.os = s.os) (hg : s₄.gens = s.gens) :
    Inv (compCx2 X scope cl s.heap.objs.size s H fp x y) [] (none :: none :: σ) H s₄ := by
  refine ⟨⟨I.ok.mod, ?_, I.ok.glob, I.ok.blt, Nat.le_refl _, fun y z c h1 h2 => I.ok.inj y z c (hcl y c h1).2 (hcl z c h2).2, fun y hy => ?_, (fun y c h => nomatch h), I.ok.hd, I.ok.frames, .inl rfl, fun b hb => ⟨Nat.ne_of_lt (hlt b hb), fun y c e => (hfp b hb).2.2.2.2.1 y c (hcl y c e).2⟩,
    fun b o e => I.bs b o e, Nat.le_trans I.ok.bsz I.sz, fun b o e hb => ?_, fun b hb hf => ?_, I.stack, I.stkFree⟩,
    hos, by rw [hg]; exact I.bare, Un.kept hk, ⟨m, hns, fun i y v h1 h2 h3 => ?_⟩, fun y c e => ?_, I.hok.fresh (Nat.le_refl _), fun y c e => I.freeC y c (hcl y c e).2, fun p hp => absurd (show p ∈ ([] : List (Addr × Obj)) from hp) (by simp), I.hok.kept hk, by show (none :: none :: σ).length = (x :: y :: X.N).length; rw [List.length_cons, List.length_cons, List.length_cons, List.length_cons, I.len]⟩
  · exact S.kind
  · rcases lookup_relabel (env := X.env) (sc := scope) (x := y) hy with z | z
    · obtain ⟨c, hc⟩ := I.ok.has y (S.free _ z rfl)
      exact ⟨c, (hcl2 y z).trans hc⟩
    · exact absurd rfl (S.nocell _ z)
  · rcases (hfp b hb).2.2.2.1 with z | z
    · exact I.ok.noex b o e z
    · exact absurd (Nat.lt_of_lt_of_le (Heap.lt_size (I.ok.bs b o e).1) z) (Nat.lt_irrefl _)
  · rcases List.mem_cons.mp (I.stkSub b hf) with z | z
    · exact (hfp b hb).2.1 z
    · exact (hfp b hb).2.2.1 z
  · match i, h1, h2 with
    | 0, h1, h2 => cases h2
    | 1, h1, h2 => cases h2
    | i + 2, h1, h2 =>
      have h1' : X.N[i]? = some y := by simpa [compCx2] using h1
      have h2' : σ[i]? = some (some v) := by simpa using h2
      have hyN : y ∈ X.N := List.mem_of_getElem? h1'
      have hc : (relabel scope X.env).names.lookup y = some .cell ∨ (relabel scope X.env).names.lookup y = some .free := by
        rcases h3 with z | z | z
        · exfalso
          rcases relabel_go (env := X.env) scope.names _ z with q | ⟨q, _⟩
          · exact S.vis y hyN q
          · cases q
        · exact .inl z
        · exact .inr z
      have hfr : (y, NameKind.free) ∈ scope.names := by
        rcases lookup_relabel hc with z | z
        · exact z
        · exact absurd rfl (S.nocell _ z)
      obtain ⟨mX, hnX, hl⟩ := I.loc
      have hk2 := S.free _ hfr rfl
      have hvis : Vis X.env.scope y := by
        rcases hk2 with z | z
        · exact .inr (.inl z)
        · exact .inr (.inr z)
      obtain ⟨u, ru, lk⟩ := hl i y v h1' h2' hvis
      refine ⟨u, ru, .inr ⟨hc, ?_⟩⟩
      rcases lk with ⟨z, _⟩ | ⟨_, c, ec, o, ho, hd⟩
      · rcases hk2 with q | q
        · rw [q] at z; cases z
        · rw [q] at z; cases z
      · exact ⟨c, (hcl2 y hfr).trans ec, o, hk c o ho, hd⟩
  · obtain ⟨v, o, ho, hd⟩ := I.cell y c (hcl y c e).2
    exact ⟨v, o, hk c o ho, hd⟩
theorem Inv.uncomp2 {σ' : St} {H' : Hp} {s' : Shared} {h' : Heap} (I : Inv X pins σ H s) (hfp : ∀ b ∈ fp, FpOk X pins H b) (J : Inv (compCx2 X scope cl s.heap.objs.size s H fp x y) [] σ' H' s') (hs : Heap.SameBut s.heap.objs.size s'.heap h') :
    Inv X pins σ H' { s' with heap := h' } := by
  have ne : ∀ {b : Addr} {o : Obj}, s.heap.get? b = some o → b ≠ s.heap.objs.size := fun e => Nat.ne_of_lt (Heap.lt_size e)
  have u := J.base
  have u' : Un (frs X.stack) fp H H' s.heap h' := ⟨fun b o e n hb hx => hs.extBut b o (ne e) (u.keep b o e n hb hx), fun b o e n hb hx => (u.slot b o e n hb hx).elim fun sl q => ⟨sl, hs.extBut b _ (ne e) q⟩, u.free,
    fun b o e hx => (u.there b o e hx).elim fun o' q => ⟨o', hs.extBut b o' (ne e) q⟩, u.tups, u.frzs, u.tbls⟩
  have nC : ∀ {b : Addr} {o : HO}, H' b = some o → b ≠ s.heap.objs.size := fun {b o} e z => by
    have f : H' s.heap.objs.size = none := J.free
    rw [z, f] at e; cases e
  have ok : HOk X.prog X.w H' h' := fun b o e => (J.hok b o e).stay (fun c v hc q => hs.extBut c v (by
    rcases hc with z | z
    · rw [z]; exact nC e
    · exact nC z) q) (fun _ q => q) fun _ _ q => q
  exact I.call' (s' := { s' with heap := h' }) (ch := fp) J.os u' ok J.bare fun b hb => ⟨(hfp b hb).2.2.2.1, (hfp b hb).2.1, (hfp b hb).2.2.2.2.1, (hfp b hb).2.2.2.2.2⟩
end
section
variable {X : Cx} {scope : Scope} {x y : Str} {pins : List (Addr × Obj)} {σ : St} {elt iter : Expr} {px py tpos pos : Pos} {kk : Nat} {wi : TI} {te : TE}
theorem comp_block2 {s₂ : Shared} {H1 : Hp} {it : Addr} {fp : List Addr} {tn : Nat → Heap → Prop} {J : It} {Q : VK} {RR : Value → Addr → Result → Shared → Prop} {E : Value → Shared → Prop} {cl : List (Str × Addr)}
    (S : CompScope2 X scope x y) (hc : X.calm = true) (he : ∀ cl C s₃ H₃ fp, PE (compCx2 X scope cl C s₃ H₃ fp x y) elt te)
    (hcl : ∀ y c, cl.lookup y = some c → (y, NameKind.free) ∈ scope.names ∧ X.env.cells.lookup y = some c) (hcl2 : ∀ y, (y, NameKind.free) ∈ scope.names → cl.lookup y = X.env.cells.lookup y)
    (I2 : Inv X pins σ H1 s₂) (T : Turn X.prog X.w X.K (.Tuple [.Name x px, .Name y py] kk tpos) J fp it tn) (st2 : tn 0 s₂.heap) (f2 : ∀ b ∈ fp, FpOk X pins H1 b) (h : ∀ D H2, H1 D = none → Same H1 H2 → H2 D = some (.lst []) → CompZW J te D σ H2 Q ⟨⟩)
    (hRR : ∀ (D C : Addr) (s' : Shared) (H' : Hp), (∃ m, s'.heap.Ns C m) → (∀ h' , Heap.SameBut C s'.heap h' → Inv X pins σ H' { s' with heap := h' }) → FpOk X pins H' C → Q (.ref D) H' → RR (.ref D) C (.ok .next) s') :
    wpAny (model X.prog X.w) X.A (newList []) (fun acc s₃ => wpAny (model X.prog X.w) X.A (newFunctionEnv scope X.env.globals cl [] X.env.qual none .none (some X.env)) (fun cenv s₄ =>
      codeAny (model X.prog X.w) X.A (.compStart (.ListComp elt [⟨.Tuple [.Name x px, .Name y py] kk tpos, iter, [], 0⟩] scope pos) 0 (.ref it) acc { cenv with scope := relabel scope X.env }) (RR acc cenv.locals) s₄) E s₃) E s₂ := by
  have hfr : H1 s₂.heap.objs.size = none := I2.hok.fresh (Nat.le_refl _)
  have hCW := h s₂.heap.objs.size _ hfr (Same.upd hfr) upd_same
  refine wpAny_newObj_type ?_
  have I3 : Inv X pins σ (upd H1 s₂.heap.objs.size (.lst [])) { s₂ with heap := s₂.heap.push { cls := .type "list", data := .seq ([] : List Value).toArray }, toks := s₂.toks } :=
    I2.laid (t' := s₂.toks) (fun b u e => Heap.get?_push_of_some _ e) (Nat.le_refl _) ⟨Nat.zero_le _, [], 0, .nil, Heap.get?_push_size _ rfl⟩
  have nD : ∀ b ∈ fp, b ≠ s₂.heap.objs.size := fun b hb => by
    obtain ⟨o, e, _⟩ := T.obj 0 _ st2 b hb
    exact Nat.ne_of_lt (Heap.lt_size e)
  have f3 : ∀ b ∈ fp, FpOk X pins (upd H1 s₂.heap.objs.size (.lst [])) b := fun b hb => ⟨by rw [upd_ne (nD b hb)]; exact (f2 b hb).1, (f2 b hb).2⟩
  generalize hH3 : upd H1 s₂.heap.objs.size (.lst []) = H3 at *
  have st3 : tn 0 (s₂.heap.push { cls := .type "list", data := .seq ([] : List Value).toArray }) := T.keep _ _ _ st2 fun b _ o e => Heap.get?_push_of_some _ e
  have hlt3 : ∀ b ∈ fp, b < (s₂.heap.push { cls := .type "list", data := .seq ([] : List Value).toArray }).objs.size := fun b hb => by
    obtain ⟨o, e, _⟩ := T.obj 0 _ st3 b hb
    exact Heap.lt_size e
  show wpAny (model X.prog X.w) X.A (newFunctionEnv scope X.env.globals cl [] X.env.qual none .none (some X.env)) _ E { s₂ with heap := s₂.heap.push { cls := .type "list", data := .seq ([] : List Value).toArray }, toks := s₂.toks }
  generalize hs3 : ({ s₂ with heap := s₂.heap.push { cls := .type "list", data := .seq ([] : List Value).toArray }, toks := s₂.toks } : Shared) = s₃ at *
  have eh : s₃.heap = s₂.heap.push { cls := .type "list", data := .seq ([] : List Value).toArray } := by rw [← hs3]
  rw [← eh] at st3 hlt3
  generalize s₂.heap.objs.size = D at *
  refine wpAny_newFunctionEnv S.nocell (by intro y hy; simp at hy) (fun h₁ hns₁ hsb₁ => ?_) S.kind
  have hk1 : ∀ b o, s₃.heap.get? b = some o → h₁.get? b = some o := fun b o e => hsb₁.extBut b o (Nat.ne_of_lt (Heap.lt_size e)) (Heap.get?_push_of_some _ e)
  have J0 : Inv (compCx2 X scope cl s₃.heap.objs.size s₃ H3 fp x y) [] (none :: none :: σ) H3 { s₃ with heap := h₁, toks := s₃.toks + ([] : List (Str × Value)).length } := I3.comp2 S hcl hcl2 f3 hlt3 hns₁ hk1 rfl rfl
  obtain ⟨n0, W, w0, turn⟩ := hCW
  have loop : codeAny (model X.prog X.w) X.A (.compLoop (.ListComp elt [⟨.Tuple [.Name x px, .Name y py] kk tpos, iter, [], 0⟩] scope pos) 0 (.ref it) (.ref D) (compEnvC scope cl s₃.heap.objs.size X.env)) (RR (.ref D) s₃.heap.objs.size) { s₃ with heap := h₁, toks := s₃.toks + ([] : List (Str × Value)).length } := by
    refine codeAny_loop rfl (fun n s' => ∃ i ys o o' H', Inv (compCx2 X scope cl s₃.heap.objs.size s₃ H3 fp x y) [] (o :: o' :: σ) H' s' ∧ tn i s'.heap ∧ (∀ b ∈ fp, H' b = none) ∧ W i ys H' ∧ i ≤ n0 ∧ n = n0 - i) (fun n s5 hI => ?_) n0
      ⟨0, [], none, none, H3, J0, T.keep _ _ _ st3 (fun b _ o e => hk1 b o e), fun b hb => (f3 b hb).1, w0, Nat.zero_le _, rfl⟩
    obtain ⟨i, ys, o5, o5', H5, I5, st5, fr5, w5, hin, hnn⟩ := hI
    have stat : ∀ {H' : Hp}, (∀ b ∈ fp, H' b = none) → ∀ b ∈ fp, FpOk (compCx2 X scope cl s₃.heap.objs.size s₃ H3 fp x y) [] H' b := fun hn b hb =>
      ⟨hn b hb, Nat.ne_of_lt (hlt3 b hb), fun z => (List.mem_cons.mp (I3.stkSub b z)).elim (fun q => (f3 b hb).2.1 q) fun q => (f3 b hb).2.2.1 q, .inl hb, fun y c e => (f3 b hb).2.2.2.2.1 y c (hcl y c e).2, fun p hp => absurd (show p ∈ ([] : List (Addr × Obj)) from hp) (by simp)⟩
    show wpAny _ X.A ((compTurn (.ListComp elt [⟨.Tuple [.Name x px, .Name y py] kk tpos, iter, [], 0⟩] scope pos) 0 (.ref it) (.ref D) (compEnvC scope cl s₃.heap.objs.size X.env)).onRaise (fun x => do noteFrame x (compEnvC scope cl s₃.heap.objs.size X.env); theTreesLotGoes x)) _ _ s5
    refine wpAny_noted ?_
    rw [compTurn_list1]
    refine wpAny_bind (wpAny_standAt (wpAny_bind ?_))
    obtain ⟨hD5, alt⟩ := turn i ys H5 hin w5
    rcases alt with ⟨stop, q⟩ | ⟨hlt, go, hsz, step⟩
    · refine wpAny_mono (T.done (compCx2 X scope cl s₃.heap.objs.size s₃ H3 fp x y) rfl rfl rfl hc i [] s5 _ H5 _ I5 (stat fr5) st5 stop) (fun r s6 ⟨hr, I6⟩ => ?_) fun _ _ z => z
      subst hr
      refine wpAny_pure ?_
      obtain ⟨m6, hn6, _⟩ := I6.loc
      exact hRR D s₃.heap.objs.size s6 H5 ⟨m6, hn6⟩ (fun h' hs' => I3.uncomp2 f3 I6 hs') (I3.fpOk (Nat.le_refl _) I6.free) q
    · refine wpAny_mono (T.item (compCx2 X scope cl s₃.heap.objs.size s₃ H3 fp x y) rfl rfl rfl hc i [] s5 _ H5 _ I5 (stat fr5) st5 go) (fun r s6 ⟨u, hr, h6⟩ => ?_) fun _ _ z => z
      subst hr
      refine wpAny_bind (wpAny_mono h6 (fun _ s7 ⟨v, H7, I7, r7, y7, st7, fr7⟩ => ?_) fun _ _ z => z)
      have I7' := I7.pinned (stat fr7) (T.obj _ _ st7)
      obtain ⟨p7, u1, u2, e7, t7, step7⟩ := step v H7 y7
      subst e7
      have G1 := pg_name (X := compCx2 X scope cl s₃.heap.objs.size s₃ H3 fp x y) (pos := px) (i := 0) (x := x) S.nd rfl (.inl (lookup_relabel_local S.own)) (.inr (lookup_relabel_local S.own))
      have G2 := pg_name (X := compCx2 X scope cl s₃.heap.objs.size s₃ H3 fp x y) (pos := py) (i := 1) (x := y) S.nd rfl (.inl (lookup_relabel_local S.own2)) (.inr (lookup_relabel_local S.own2))
      have G := pg_tup (X := compCx2 X scope cl s₃.heap.objs.size s₃ H3 fp x y) (pos := tpos) (k := kk) (n := 2) hc (pgs_cons G1 (pgs_cons G2 pgs_nil)) rfl rfl
      refine wpAny_bind (wpAny_mono (G _ s7 _ H7 (.ref p7) u (fun σ' H' => σ' = some u1 :: some u2 :: σ ∧ H' = H7) I7' r7 ⟨p7, [u1, u2], rfl, SqT.of t7, rfl, _, _, rfl, _, _, rfl, rfl, rfl, rfl⟩) (fun _ s8 hs8 => ?_) fun _ _ z => False.elim z)
      obtain ⟨σ8, H8, I8, rfl, rfl⟩ := hs8
      refine wpAny_bind (wpAny_bind (wpAny_mono (he cl s₃.heap.objs.size s₃ H3 fp _ s8 _ _ _ I8 step7) (fun yv s9 hs9 => ?_) fun _ _ z => False.elim z))
      obtain ⟨y', H9, I9, r9, hD9, k9⟩ := hs9
      refine wpAny_bind (wpAny_mono (mt_append (X := compCx2 X scope cl s₃.heap.objs.size s₃ H3 fp x y) _ s9 _ H9 (.ref D) [y'] (.ref D) [yv] (fun _ H' => H' = upd H9 D (.lst (ys ++ [y']))) I9 rfl (.cons r9 .nil) ⟨D, ys, y', rfl, rfl, hD9, hsz, rfl⟩) (fun _ sA hsA => ?_) fun _ _ z => False.elim z)
      obtain ⟨_, HA, IA, _, rfl⟩ := hsA
      refine wpAny_pure ?_
      have wA := k9 _ SameB.upd upd_same
      refine wpAny_pure ⟨rfl, n0 - (i + 1), by omega, i + 1, ys ++ [y'], some u1, some u2, _, IA.unpinned (pins := []) (pl := pinsAt fp s7.heap), T.keep _ _ _ st7 (fun b hb o e => (IA.pin (b, o) (List.mem_append_right _ (List.mem_append_right _ (mem_pinsAt hb e)))).1), fun b hb => ?_, wA, hlt, rfl⟩
      obtain ⟨o, e, d⟩ := T.obj _ _ st7 b hb
      exact (IA.pin (b, o) (List.mem_append_right _ (List.mem_append_right _ (mem_pinsAt hb e)))).2.1
  exact codeAny_compStart_list loop (T.self _ 0 _ _ _ (T.keep _ _ _ st3 fun b _ o e => hk1 b o e) loop)
theorem pe_compZ (hi : PI X (.Tuple [.Name x px, .Name y py] kk tpos) iter wi) (he : ∀ cl C s₃ H₃ fp, PE (compCx2 X scope cl C s₃ H₃ fp x y) elt te) (S : CompScope2 X scope x y) (hc : X.calm = true)
    (hs : ∀ x, foldedSetIterable iter X.env x = pure x := by intro _; rfl) : PE X (.ListComp elt [⟨.Tuple [.Name x px, .Name y py] kk tpos, iter, [], 0⟩] scope pos) (tCompZ wi te) := by
  intro pins s σ H Q I h
  obtain ⟨cl, hclos, hcl, hcl2⟩ := closure_of (env := X.env) (sc := scope) fun y hy => I.ok.has y (S.free _ hy rfl)
  rw [eval_ListComp]
  refine wpAny_comprehension_free (use := none) rfl hs hclos S.kind S.loc ?_
  refine thn (hi pins s σ H _ I h) fun v s1 h1 => thn h1 fun itv s2 h2 => ?_
  obtain ⟨it, fp, tn, J, H2, e, I2, T, st2, f2, hW⟩ := h2
  subst e
  exact comp_block2 (RR := fun acc C => compPost (model X.prog X.w) X.A X.xe none (EP X pins σ Q) acc C) S hc he hcl hcl2 I2 T st2 f2 hW fun D C s' H' hm hI _ hq =>
    hm.elim fun m hn => ⟨m, hn, fun h' hs' => ⟨.ref D, H', hI h' hs', rfl, hq⟩⟩
theorem ps_setCZ {i : Nat} {y' : Str} {py' spos : Pos} (hN : X.N.Nodup) (hyi : X.N[i]? = some y') (hy : X.env.scope.names.lookup y' = some .local) (hi : PI X (.Tuple [.Name x px, .Name y py] kk tpos) iter wi) (he : ∀ cl C s₃ H₃ fp, PE (compCx2 X scope cl C s₃ H₃ fp x y) elt te) (S : CompScope2 X scope x y) (hc : X.calm = true)
    (hsw : swapsWith (.ListComp elt [⟨.Tuple [.Name x px, .Name y py] kk tpos, iter, [], 0⟩] scope pos) (some (.Name y' py')) spos.line X.env = pure true := by rfl)
    (hs : ∀ x, foldedSetIterable iter X.env x = pure x := by intro _; rfl) : PS X (.Assign [.Name y' py'] (.ListComp elt [⟨.Tuple [.Name x px, .Name y py] kk tpos, iter, [], 0⟩] scope pos) spos) (tAsg (tCompZ wi te) (gName i)) := by
  intro pins s σ H D I h
  obtain ⟨cl, hclos, hcl, hcl2⟩ := closure_of (env := X.env) (sc := scope) fun y hy => I.ok.has y (S.free _ hy rfl)
  rw [exec_Assign_Name_used _ _ _ _ hsw]
  refine wpAny_bind (wpAny_standAt (wpAny_bind ?_))
  show wpAny _ X.A (do let _ ← comprehension (.ListComp elt [⟨.Tuple [.Name x px, .Name y py] kk tpos, iter, [], 0⟩] scope pos) scope X.env _ (newList []) false (eval iter X.env) (some (assign (.Name y' py') X.env))) _ _ s
  refine wpAny_bind (wpAny_mono (wpAny_comprehension_free (use := some (assign (.Name y' py') X.env)) (Q := fun _ s' => SP X pins D .next s') rfl hs hclos S.kind S.loc ?_) (fun _ s' hq => wpAny_pure (wpAny_pure hq)) fun _ _ e => e)
  refine thn (hi pins s σ H _ I h) fun v s1 h1 => thn h1 fun itv s2 h2 => ?_
  obtain ⟨it, fp, tn, J, H2, e, I2, T, st2, f2, hW⟩ := h2
  subst e
  refine comp_block2 (Q := fun v H' => D.nx (σ.set i (some v)) H') (RR := fun acc C => compPost (model X.prog X.w) X.A X.xe (some (assign (.Name y' py') X.env)) (fun _ s' => SP X pins D .next s') acc C) S hc he hcl hcl2 I2 T st2 f2 hW fun L C s' H' hm hI hfp hq => ?_
  obtain ⟨m, hn⟩ := hm
  have I' : Inv X pins σ H' s' := hI s'.heap (Heap.SameBut.refl ..)
  show wpAny _ X.A (assign (.Name y' py') X.env (.ref L)) _ _ s'
  refine wpAny_assign_Name (store_ok2 (v := .ref L) I' hN hyi (.inl hy) rfl (fun s'' I'' hsb => ?_) (.inr hy))
  obtain ⟨a, hsame, ha⟩ := hsb
  have nea : C ≠ a := by
    rcases ha with z | z
    · rw [z]; exact hfp.2.1
    · exact fun q => hfp.2.2.2.2.1 y' a z q.symm
  refine ⟨m, hn.sameBut hsame nea, fun h' hs' => ⟨_, H', I''.turned (t' := s''.toks) (it := C) (fun b o hb e => hs'.extBut b o hb e) hfp.1 hfp.2.1 hfp.2.2.2.1 hfp.2.2.2.2.1 hfp.2.2.2.2.2, hq⟩⟩
end
def compOk2 (sc scope : Scope) (x y : Str) (N : List Str) : Bool :=
  (scope.kind == .function) && scope.names.all (fun y => y.2 != .cell) && scope.names.all (fun y => y.2 != .local || scope.names.lookup y.1 == some .local) && (scope.names.lookup x == some .local) && (scope.names.lookup y == some .local) &&
  scope.names.all (fun y => y.2 != .free || (sc.names.lookup y.1 == some .cell || sc.names.lookup y.1 == some .free)) && decide ((x :: y :: N).Nodup) && N.all (fun y => scope.names.lookup y != some .local)
theorem compS2 {X : Cx} {sc scope : Scope} {x y : Str} {N : List Str} (hsc : X.env.scope = sc) (hN : X.N = N) (h : compOk2 sc scope x y N = true) : CompScope2 X scope x y := by
  subst hN hsc
  unfold compOk2 at h
  simp only [Bool.and_eq_true, List.all_eq_true, beq_iff_eq, Bool.or_eq_true, bne_iff_ne, ne_eq, decide_eq_true_eq] at h
  obtain ⟨⟨⟨⟨⟨⟨⟨h1, h2⟩, h3⟩, h4⟩, h5⟩, h6⟩, h7⟩, h8⟩ := h
  exact ⟨h1, h2, fun y hy e => (h3 y hy).resolve_left fun z => z e, h4, h5, fun y hy e => (h6 y hy).resolve_left fun z => z e, h7, h8⟩
theorem compZW_zip {K : PySem.W.Frag} {b1 b2 : Bool} {l1 l2 D : Addr} {xs ys : List V} {te : TE} {σ : St} {H : Hp} {Q : VK} (Pv : Nat → List V → Hp → Prop) (h0 : Pv 0 [] H) (hsz : xs.length ≤ sizeLine)
    (hD : ∀ i zs H, i ≤ min xs.length ys.length → Pv i zs H → H D = some (.lst zs) ∧ SqK b1 K H l1 xs ∧ SqK b2 K H l2 ys ∧ zs.length = i)
    (hs : ∀ i x y zs H p H', xs[i]? = some x → ys[i]? = some y → Pv i zs H → H p = none → Same H H' → H' p = some (.tup [x, y]) → te (some x :: some y :: σ) H' fun z H2 => H2 D = some (.lst zs) ∧ ∀ H3, SameB D H2 H3 → H3 D = some (.lst (zs ++ [z])) → Pv (i + 1) (zs ++ [z]) H3)
    (hd : ∀ zs H, Pv (min xs.length ys.length) zs H → Q (.ref D) H) : CompZW (Itz K b1 b2 l1 l2) te D σ H Q ⟨⟩ := by
  refine ⟨min xs.length ys.length, Pv, h0, fun i zs H hi p => ?_⟩
  obtain ⟨e1, e2, e3, e4⟩ := hD i zs H hi p
  refine ⟨e1, ?_⟩
  by_cases hlt : i < min xs.length ys.length
  · have hx : xs[i]? = some (xs[i]'(by omega)) := List.getElem?_eq_getElem _
    have hy : ys[i]? = some (ys[i]'(by omega)) := List.getElem?_eq_getElem _
    refine .inr ⟨hlt, ⟨xs, ys, _, _, e2, e3, hx, hy⟩, by omega, fun v H' q => ?_⟩
    obtain ⟨q, x, y, rfl, nq, rfl, k1, k2⟩ := q
    exact ⟨q, x, y, rfl, upd_same, hs i x y zs H q _ (k1 _ e2) (k2 _ e3) p nq (Same.upd nq) upd_same⟩
  · have e : i = min xs.length ys.length := by omega
    subst e
    exact .inl ⟨⟨xs, ys, e2, e3, by omega⟩, hd zs H p⟩
end L2

namespace L2
open PySem PySem.Spec PyProof.Rows
def iTupF (K : PySem.W.Frag) (tl : TE) : TI := fun σ H R => tl σ H fun x H1 => match x with
  | .ref a => (match H1 a with
    | some (.tup _) => R (Itt K a) H1
    | _ => False)
  | _ => False
def rSlG : V → Option Int → Option Int → Hp → VK → Prop := fun x lo hi H Q => match x with
  | .ref a => (match H a with
    | some (.lst xs) => New H (.lst (cutV xs lo hi)) Q ⟨⟩
    | some (.tup xs) => ¬ (HT.sIx xs.length 0 lo = 0 ∧ HT.sIx xs.length xs.length hi = xs.length) ∧ New H (.tup (cutV xs lo hi)) Q ⟨⟩
    | _ => False)
  | _ => False
theorem sl_G {X : Cx} : SlR X rSlG := by
  intro pins s σ H x v vl vu lo hi sl Q I rx hs pl pu h
  cases x with
  | ref a =>
    have h' : (match H a with
      | some (.lst xs) => New H (.lst (cutV xs lo hi)) Q ⟨⟩
      | some (.tup xs) => ¬ (HT.sIx xs.length 0 lo = 0 ∧ HT.sIx xs.length xs.length hi = xs.length) ∧ New H (.tup (cutV xs lo hi)) Q ⟨⟩
      | _ => False) := h
    split at h'
    · rename_i xs e
      exact sl_list pins s σ H _ v vl vu lo hi sl Q I rx hs pl pu ⟨_, xs, rfl, SqL.of e, h'.raw⟩
    · rename_i xs e
      exact sl_tup pins s σ H _ v vl vu lo hi sl Q I rx hs pl pu ⟨_, xs, rfl, SqT.of e, h'.1, h'.2.raw⟩
    · exact h'.elim
  | _ => exact False.elim h
theorem pe_fldFK {X : Cx} {K : PySem.W.Frag} {e : Expr} {f : Str} {pos : Pos} {ta : TE} (hK : X.K = K) (he : PE X e ta) (hb : attributeBase e f X.env (eval e X.env) = eval e X.env) : PE X (.Attribute e f pos) (tFldF K ta f) := hK ▸ pe_fldF he hb
end L2

namespace L2
open PySem PySem.Spec PyProof.Rows
section
variable {prog : Program} {w : World} {A : Around} {E : Value → Shared → Prop} {s : Shared}
theorem object_init_kw {T newId : String} {self : Value} {rest : List Value} {kw : List (Str × Value)} (hl : typeLookup (.type T) "__init__" = pure (some (.builtin "object.__init__")))
    (hm : Bind.madeBy (.type T) = pure (some newId)) (hne : (some newId != some "object.__new__") = true) :
    Meets (Builtin.«object.__init__» ⟨self :: rest, kw⟩) (fun _ R s => s.TypeIs self T ∧ R (.ok (.ret .none)) s) := by
  refine Meets.of_wp fun prog w A R s hs => ?_
  obtain ⟨hT, hq⟩ := hs
  cases rest with
  | nil =>
    cases kw with
    | nil => exact wpAny_pure ⟨_, rfl, hq⟩
    | cons a kw =>
      repeat (any_goals (first | assumption | wp_step))
      exact ⟨_, rfl, hq⟩
  | cons a rest =>
    repeat (any_goals (first | assumption | wp_step))
    exact ⟨_, rfl, hq⟩
theorem callTypeK {T newId : String} {Bn : Builtin} {args : List Value} {kw : List (Str × Value)} {S : PySem.Spec} {Q : Value → Shared → Prop} (ft : TypeCalled T newId "object.__init__")
    (hne : (some newId != some "object.__new__") = true) (hct : checkTypeCall T ⟨args, kw⟩ = pure ()) (hcn : checkBuiltinCall newId ⟨.type T :: args, kw⟩ = pure ())
    (hok : ∀ obj, argsOk "object.__init__" ⟨obj :: args, kw⟩) (entryN : entryFor table newId = some Bn) (g : Meets (Bn ⟨.type T :: args, kw⟩) S)
    (h : S A.in1 (wants (fun obj s₁ => s₁.TypeIs obj T ∧ Q obj s₁) E) s) : wpAny (model prog w) A (call (.type T) args kw) Q E s := by
  obtain ⟨c, tl, hmro⟩ := ft.mro
  have hmade := ft.made
  have hsub := ft.sub
  refine wpAny_call (codeAny_of_tree ?_)
  show wpAny _ _ (callAny (.type T) _) _ _ _
  refine wpAny_pure ⟨Code.quiet_builtin _ (by decide +kernel), codeAny_builtin F.entry_type_call ?_⟩
  rw [Around.under_plain (weight_type_call_type T args kw) (units_type_call_type T args kw)]
  have h1 := ft.notType
  have h2 := ft.canCreate
  repeat (any_goals (first | assumption | wp_step))
  refine codeAny_mono (codeAny_call_builtin ft.plain entryN (wpAny_of_eq hcn (g prog w A.in1 _ s h))) fun r s₁ hr => ?_
  cases r with
  | error e => exact hr
  | ok fl =>
    cases fl with
    | ret obj =>
      obtain ⟨hT, hq⟩ := hr
      have hli := ft.init.lookup
      have hbi := ft.init.bind obj
      repeat (any_goals (first | assumption | wp_step))
      refine codeAny_mono (codeAny_call_builtin ft.init.plain F.entry_object_init (ft.init.check _ _ _ _ _ _ _ _ hT (hok obj) (object_init_kw ft.init.lookup ft.made hne prog w A.in1 (wants (fun r s₂ => r = .none ∧ Q obj s₂) E) s₁ ⟨hT, rfl, hq⟩))) fun r₂ s₂ hr₂ => ?_
      cases r₂ with
      | error e => exact hr₂
      | ok fl₂ =>
        cases fl₂ with
        | ret r =>
          obtain ⟨rfl, hq⟩ := hr₂
          repeat (any_goals (first | assumption | wp_step))
        | _ => exact hr₂.elim
    | _ => exact hr.elim
end
theorem typeCall_enum (a v : Value) : checkTypeCall "enumerate" ⟨[a], [(Str.ofString "start", v)]⟩ = pure () := by kernel_rfl
theorem newCall_enum (a v : Value) : checkBuiltinCall "enumerate.__new__" ⟨[.type "enumerate", a], [(Str.ofString "start", v)]⟩ = pure () := by kernel_rfl
theorem init_enum (a b v : Value) : argsOk "object.__init__" ⟨[a, b], [(Str.ofString "start", v)]⟩ := by
  unfold argsOk
  kernel_rfl
theorem meets_enum (l : Addr) (items : Array Value) (n : Int) (t : Tok) (h1 : -(2 ^ 62) ≤ n) (h2 : n < 2 ^ 62) :
    Meets (Builtin.«enumerate.__new__» ⟨[.type "enumerate", .ref l], [(Str.ofString "start", .int n t)]⟩) (fun _ R s => s.heap.IsList l items ∧
      R (.ok (.ret (.ref (s.heap.push (itO true l)).objs.size))) { s with heap := (s.heap.push (itO true l)).push { cls := .type "enumerate", data := .fields #[.none, .bool false, .ref s.heap.objs.size, rawInt n, .none, .none] } }) :=
  .of_wp fun prog w A R s h => by
    obtain ⟨hp, g, d, tk, os⟩ := s; obtain ⟨hl, h⟩ := h
    have hsub := sub_enumerate
    have hfi : Builtin.SmallTypes.fitsIndex n = true := by
      unfold Builtin.SmallTypes.fitsIndex
      simp
      omega
    have hL : Heap.IsList (Shared.heap ⟨hp, g, d, tk, os⟩) l items := hl
    wp_walk
    refine wpAny_stack_any fun st => wpAny_pure ?_
    split
    · rename_i c _ _ _ _ _
      cases (c == Value.type "enumerate")
      · wp_walk using wpAny_pyIter_list hL
        exact ⟨_, rfl, h⟩
      · wp_walk using wpAny_pyIter_list hL
        exact ⟨_, rfl, h⟩
    · wp_walk using wpAny_pyIter_list hL
      exact ⟨_, rfl, h⟩
section
variable {prog : Program} {w : World} {A : Around} {E : Value → Shared → Prop} {s : Shared}
theorem enumN_new {l : Addr} {items : Array Value} {n : Int} {t : Tok} {Q : Value → Shared → Prop} (hL : s.heap.IsList l items) (h1 : -(2 ^ 62) ≤ n) (h2 : n < 2 ^ 62)
    (h : ∀ h', IsEnum h' (s.heap.objs.size + 1) s.heap.objs.size n .none → h'.IsListIter s.heap.objs.size l 0 → (∀ b o, s.heap.get? b = some o → h'.get? b = some o) → Q (.ref (s.heap.objs.size + 1)) { s with heap := h' }) :
    wpAny (model prog w) A (call (.type "enumerate") [.ref l] [(Str.ofString "start", .int n t)]) Q E s := by
  refine callTypeK F.called_enumerate (by decide) (typeCall_enum _ _) (newCall_enum _ _) (fun obj => init_enum obj _ _) F.entry_enumerate_new (meets_enum l items n t h1 h2) ⟨hL, ?_⟩
  have hz : (s.heap.push (itO true l)).objs.size = s.heap.objs.size + 1 := Heap.size_push ..
  have g2 : ((s.heap.push (itO true l)).push { cls := .type "enumerate", data := .fields #[.none, .bool false, .ref s.heap.objs.size, rawInt n, .none, .none] }).get? (s.heap.push (itO true l)).objs.size = some _ := Heap.get?_push_size _ rfl
  have g1 : ((s.heap.push (itO true l)).push { cls := .type "enumerate", data := .fields #[.none, .bool false, .ref s.heap.objs.size, rawInt n, .none, .none] }).get? s.heap.objs.size = some (itO true l) := Heap.get?_push_of_some _ (Heap.get?_push_size _ rfl)
  show _ ∧ _
  rw [hz] at g2 ⊢
  exact ⟨⟨_, g2, rfl⟩, h _ g2 ⟨_, g1, rfl, rfl⟩ fun b o e => Heap.get?_push_of_some _ (Heap.get?_push_of_some _ e)⟩
theorem enumN_item {e it l : Addr} {i : Nat} {n : Int} {items : Array Value} {x old : Value} {Q : Option Value → Shared → Prop} (he : IsEnum s.heap e it n old) (hit : s.heap.IsListIter it l i) (hl : s.heap.IsList l items) (hx : items[i]? = some x) (hne : e ≠ it)
    (hQ : ∀ h', IsEnumOut h' e it (n + 1) x s.heap.objs.size → h'.IsListIter it l (i + 1) → h'.get? s.heap.objs.size = some { cls := .type "tuple", data := .seq #[.int n s.toks, x] } →
      (∀ b o, b ≠ e → b ≠ it → s.heap.get? b = some o → h'.get? b = some o) → Q (some (.ref s.heap.objs.size)) { s with heap := h', toks := s.toks + 1 }) :
    wpAny (model prog w) A (pyNext (.ref e)) Q E s := by
  have hT : s.TypeIs (.ref e) "enumerate" := ⟨_, he, rfl⟩
  unfold pyNext
  refine wpAny_bind (wpAny_attempt (wpAny_callSpecial?_slot (name := Str.ofString "__next__") hT F.slot_enumerate_next
    (wpAny_call_entry F.slot_enumerate_next hT F.entry_enumerate_next ?_ (F.args_enumerate_next_1 _))))
  obtain ⟨hp, g, d, tk, os⟩ := s
  show wpAny _ _ (field (.ref e) 2 >>= _) _ _ _
  refine wpAny_bind (wpAny_field he rfl (x := .ref it) rfl ?_)
  refine wpAny_bind (wpAny_nextOf_list_item hit hl hx fun g1 hit1 s1 => ?_)
  replace s1 : Heap.SameBut it hp g1 := s1
  have he1 : IsEnum g1 e it n old := (s1.2 e hne).trans he
  show wpAny _ _ (field (.ref e) 3 >>= _) _ _ ⟨g1, g, d, tk, os⟩
  refine wpAny_bind (wpAny_field he1 rfl (x := rawInt n) rfl ?_)
  show wpAny _ _ (field (.ref e) 4 >>= _) _ _ ⟨g1, g, d, tk, os⟩
  refine wpAny_bind (wpAny_field he1 rfl (x := .none) rfl ?_)
  show wpAny _ _ (mkInt n >>= _) _ _ ⟨g1, g, d, tk, os⟩
  refine wpAny_bind (wpAny_mkInt ?_)
  show wpAny _ _ (setField (.ref e) 3 (rawInt (n + 1)) >>= _) _ _ ⟨g1, g, d, tk + 1, os⟩
  refine wpAny_bind (wpAny_setField_rec he1 (by simp) fun g2 he2 s2 => ?_)
  replace s2 : Heap.SameBut e g1 g2 := s2
  replace he2 : IsEnum g2 e it (n + 1) old := he2
  show wpAny _ _ (setField (.ref e) 4 .none >>= _) _ _ ⟨g2, g, d, tk + 1, os⟩
  refine wpAny_bind (wpAny_setField_rec he2 (by simp) fun g3 he3 s3 => ?_)
  replace s3 : Heap.SameBut e g2 g3 := s3
  replace he3 : IsEnum g3 e it (n + 1) old := he3
  show wpAny _ _ (newTuple [.int n tk, x] >>= _) _ _ ⟨g3, g, d, tk + 1, os⟩
  refine wpAny_bind (wpAny_newTuple ?_)
  have he4 : IsEnum (g3.push { cls := .type "tuple", data := .seq #[.int n tk, x] }) e it (n + 1) old := Heap.get?_push_of_some _ he3
  generalize hh4 : g3.push { cls := .type "tuple", data := .seq #[.int n tk, x] } = g4 at he4
  have hsz : g3.objs.size = hp.objs.size := by rw [s3.1, s2.1, s1.1]
  have hel : e < hp.objs.size := Heap.lt_size he
  have ht4 : g4.get? hp.objs.size = some { cls := .type "tuple", data := .seq #[.int n tk, x] } := by rw [← hh4, ← hsz]; exact Heap.get?_push_size _ rfl
  have hk4 : ∀ b o, b ≠ e → b ≠ it → hp.get? b = some o → g4.get? b = some o := fun b o hbe hbi hb => by
    rw [← hh4]; exact Heap.get?_push_of_some _ (s3.extBut b o hbe (s2.extBut b o hbe (s1.extBut b o hbi hb)))
  have hit4 : g4.IsListIter it l (i + 1) := by
    rw [← hh4]; exact hit1.at fun o ho => Heap.get?_push_of_some _ (s3.extBut _ _ (Ne.symm hne) (s2.extBut _ _ (Ne.symm hne) ho))
  show wpAny _ _ (Builtin.SmallTypes.ownedTupleIsFree (.ref e) >>= _) _ _ ⟨g4, g, d, tk + 1, os⟩
  rw [hsz]
  clear hh4 he3 s3 he2 s2 he1 s1 hit1 hsz g3 g2 g1
  refine wpAny_bind ?_
  unfold Builtin.SmallTypes.ownedTupleIsFree
  refine wpAny_bind (wpAny_field he4 rfl (x := .none) rfl (wpAny_pure ?_))
  simp only [if_true]
  refine wpAny_bind (wpAny_rule ?_)
  refine wpAny_bind (wpAny_field he4 rfl (x := old) rfl ?_)
  refine wpAny_bind (wpAny_setField_rec he4 (by simp) fun g5 he5 s5 => ?_)
  replace s5 : Heap.SameBut e g4 g5 := s5
  replace he5 : IsEnum g5 e it (n + 1) x := he5
  show wpAny _ _ (Builtin.SmallTypes.ownedTupleHandOut (.ref e) (.ref hp.objs.size) >>= _) _ _ ⟨g5, g, d, tk + 1, os⟩
  refine wpAny_bind ?_
  unfold Builtin.SmallTypes.ownedTupleHandOut
  refine wpAny_bind (wpAny_setField_rec he5 (by simp) fun g6 he6 s6 => ?_)
  replace s6 : Heap.SameBut e g5 g6 := s6
  replace he6 : IsEnumOut g6 e it (n + 1) x hp.objs.size := he6
  refine wpAny_setField_rec he6 (by simp) fun g7 he7 s7 => ?_
  replace s7 : Heap.SameBut e g6 g7 := s7
  replace he7 : IsEnumOut g7 e it (n + 1) x hp.objs.size := he7
  refine wpAny_bind (wpAny_letGo (wpAny_pure ⟨_, rfl, wpAny_pure (hQ g7 he7 ?_ ?_ ?_)⟩))
  · exact hit4.at fun o ho => s7.extBut _ _ (Ne.symm hne) (s6.extBut _ _ (Ne.symm hne) (s5.extBut _ _ (Ne.symm hne) ho))
  · exact s7.extBut _ _ (Nat.ne_of_gt hel) (s6.extBut _ _ (Nat.ne_of_gt hel) (s5.extBut _ _ (Nat.ne_of_gt hel) ht4))
  · exact fun b o hbe hbi hb => s7.extBut b o hbe (s6.extBut b o hbe (s5.extBut b o hbe (hk4 b o hbe hbi hb)))
theorem enumN_end {e it l : Addr} {i : Nat} {n : Int} {items : Array Value} {old : Value} {Q : Option Value → Shared → Prop} (hh : A.handled = none) (he : IsEnum s.heap e it n old) (hit : s.heap.IsListIter it l i) (hl : s.heap.IsList l items) (hx : items[i]? = none)
    (hQ : ∀ h', Heap.ExtBut it s.heap h' → Q none { s with heap := h' }) : wpAny (model prog w) A (pyNext (.ref e)) Q E s := by
  have hT : s.TypeIs (.ref e) "enumerate" := ⟨_, he, rfl⟩
  unfold pyNext
  refine wpAny_bind (wpAny_attempt (wpAny_callSpecial?_slot (name := Str.ofString "__next__") hT F.slot_enumerate_next
    (wpAny_call_entry F.slot_enumerate_next hT F.entry_enumerate_next ?_ (F.args_enumerate_next_1 _))))
  show wpAny _ _ (field (.ref e) 2 >>= _) _ _ _
  refine wpAny_bind (wpAny_field he rfl (x := .ref it) rfl ?_)
  refine wpAny_bind (wpAny_nextOf_list_end hh hit hl hx fun h' x he' hx' => ?_)
  obtain ⟨o, ho, hc⟩ := hx'
  refine wpAny_bind (wpAny_isInstance (T := "StopIteration") (b := true) ⟨o, ho, hc⟩ isSubtype_stop ?_)
  exact wpAny_pure (hQ _ he')
end
def Ite (K : PySem.W.Frag) (l : Addr) (n : Int) : It :=
  ⟨fun i H => ∃ xs x, SqL K H l xs ∧ xs[i]? = some x,
   fun i H v H' => ∃ p x, v = .ref p ∧ H p = none ∧ H' = upd H p (.tup [.int (n + (i : Int)), x]) ∧ ∀ xs, SqL K H l xs → xs[i]? = some x,
   fun i H => ∃ xs, SqL K H l xs ∧ xs.length ≤ i⟩
theorem turn_enum {P : Program} {w : World} {K : PySem.W.Frag} {elts : List Expr} {kk : Nat} {tpos : Pos} {e it l : Addr} {n : Int} (hne : e ≠ it) :
    Turn P w K (.Tuple elts kk tpos) (Ite K l n) [e, it] e (fun i h => (∃ old, IsEnum h e it (n + (i : Int)) old) ∧ h.IsListIter it l i) where
  mem := by simp
  obj := fun i h st b hb => by
    obtain ⟨⟨old, he⟩, ⟨o1, e1, _, d1⟩⟩ := st
    simp only [List.mem_cons, List.not_mem_nil, or_false] at hb
    rcases hb with rfl | rfl
    · exact ⟨_, he, fun v z => by cases z⟩
    · exact ⟨_, e1, fun v z => by rw [d1] at z; cases z⟩
  keep := fun i h h' st k => by
    obtain ⟨⟨old, he⟩, h1⟩ := st
    exact ⟨⟨old, k e (by simp) _ he⟩, h1.at fun o e => k it (by simp) o e⟩
  item := by
    intro X hP hw hK hc i pins s σ H E I hf st hg
    subst hP hw hK
    obtain ⟨xs, x, hq1, hx⟩ := hg
    obtain ⟨us, r1, p1, _⟩ := I.list hq1
    obtain ⟨u, hu, ru⟩ := r1.get hx
    obtain ⟨⟨old, he⟩, h1⟩ := st
    refine enumN_item he h1 p1.isList (x := u) (by simpa using hu) hne fun h' he' h1' pT kk' => ?_
    refine ⟨.ref s.heap.objs.size, rfl, wpAny_letOwnedTupleGo_enum (s := { s with heap := h', toks := s.toks + 1 }) he' fun h'' he'' sb => ?_⟩
    replace sb : Heap.SameBut e h' h'' := sb
    have k2 : ∀ c o, c ∉ [e, it] → s.heap.get? c = some o → h''.get? c = some o := fun c o hc q => by
      simp only [List.mem_cons, List.not_mem_nil, or_false, not_or] at hc
      exact sb.extBut _ _ hc.1 (kk' c o hc.1 hc.2 q)
    have I1 : Inv X pins σ H { s with heap := h'', toks := s.toks + 1 } := I.turnedL (t' := s.toks + 1) k2 hf
    have elt : e < s.heap.objs.size := Heap.lt_size he
    have pT2 : h''.get? s.heap.objs.size = some { cls := .type "tuple", data := .seq #[.int (n + (i : Int)) s.toks, u] } := sb.extBut _ _ (Nat.ne_of_gt elt) pT
    have fo := I.fpOk (b := s.heap.objs.size) (Nat.le_refl _) (I.hok.fresh (Nat.le_refl _))
    have nT : H s.heap.objs.size = none := I.hok.fresh (Nat.le_refl _)
    have I2 : Inv X pins σ (upd H s.heap.objs.size (.tup [.int (n + (i : Int)), x])) { s with heap := h'', toks := s.toks + 1 } := by
      refine I1.track ?_ fo.2.1 fo.2.2.2.2.1 fo.2.2.2.2.2 nT ⟨two_line, [.int (n + (i : Int)) s.toks, u], .cons ⟨_, rfl⟩ (.cons ru .nil), ⟨_, pT2, rfl, 0, rfl⟩⟩
      cases q : X.s₀.heap.get? s.heap.objs.size with
      | none => rfl
      | some o => exact absurd (Nat.lt_of_lt_of_le (Heap.lt_size q) I.sz) (Nat.lt_irrefl _)
    have ne : ∀ b ∈ [e, it], b ≠ s.heap.objs.size := fun b hb q => by
      have lt : b < s.heap.objs.size := by
        simp only [List.mem_cons, List.not_mem_nil, or_false] at hb
        rcases hb with rfl | rfl
        · exact elt
        · obtain ⟨_, z, _⟩ := h1; exact Heap.lt_size z
      exact Nat.ne_of_lt lt q
    refine ⟨.ref s.heap.objs.size, _, I2, rfl, ⟨_, x, rfl, nT, rfl, fun xs' h => by rw [I.list_inj h hq1]; exact hx⟩,
      ⟨⟨_, by rw [Int.natCast_add, ← Int.add_assoc]; exact he''⟩, h1'.at fun o z => sb.extBut _ _ (Ne.symm hne) z⟩, fun b hb => by rw [upd_ne (ne b hb)]; exact (hf b hb).1⟩
  done := by
    intro X hP hw hK hc i pins s σ H E I hf st hg
    subst hP hw hK
    obtain ⟨xs, hq1, hle⟩ := hg
    obtain ⟨us, r1, p1, _⟩ := I.list hq1
    obtain ⟨⟨old, he⟩, h1⟩ := st
    have l1' := r1.length
    refine enumN_end (I.ok.hd hc) he h1 p1.isList (by simp; omega) fun h' kk' => ⟨rfl, I.turnedL (t' := s.toks) (fun c o hc q => ?_) hf⟩
    simp only [List.mem_cons, List.not_mem_nil, or_false, not_or] at hc
    exact kk' c o hc.2 q
  self := fun _ _ _ _ _ st h => by
    obtain ⟨⟨old, he⟩, _⟩ := st
    exact wpAny_pyIter_enum he h
end L2

namespace L2
open PySem PySem.Spec PyProof.Rows
section
variable {M : Model} {A : Around} {E : Value → Shared → Prop} {s : Shared} {env : Env}
theorem callWithTK {pos : Pos} {T : String} {e : Expr} {rest : List Expr} {kws : List Keyword} {Q : Value → Shared → Prop}
    (h : wpAny M A (spliced (backTo pos (starEach (e :: rest) env))) (fun vs s₁ => wpAny M A (evalAll ((backToKw pos (keywordEach kws env)).map (·.2)))
      (fun kvs s₂ => wpAny M A (call (.type T) vs (((backToKw pos (keywordEach kws env)).filterMap (·.1)).zip kvs)) Q E s₂) E s₁) E s)
    (he : backTo pos (starEach (e :: rest) env) = (false, eval e env) :: backTo pos (starEach rest env))
    (hp : (backTo pos (starEach (e :: rest) env)).any (·.1) = false)
    (ha : (backToKw pos (keywordEach kws env)).all (·.1.isSome) = true)
    (hk : (backToKw pos (keywordEach kws env)).any (·.1.isNone) = false) :
    wpAny M A (callWith pos (.type T) [] (backTo pos (starEach (e :: rest) env)) (backToKw pos (keywordEach kws env))) Q E s := by
  have g : wpAny M A (evalArgs (.type T) true (backTo pos (starEach (e :: rest) env)) (backToKw pos (keywordEach kws env))) (fun a s₁ => wpAny M A (call (.type T) ([] ++ a.pos) a.kw) Q E s₁) E s := by
    rw [he] at h ⊢
    exact evalArgs_kwB ha h
  unfold callWith
  refine wpAny_bind (wpAny_holding (wpAny_mono g (fun a s₁ h₁ => wpAny_bind (wpAny_standAt ?_)) fun _ _ x => x))
  simp only [hp, hk, Bool.or_false]
  refine wpAny_bind (wpAny_pure ?_)
  exact wpAny_bind (wpAny_mono h₁ (fun r s₂ hr => wpAny_bind (wpAny_holding (wpAny_point (wpAny_pure hr)))) fun _ _ x => x)
end
def iEnumF (K : PySem.W.Frag) (t tk : TA) : TI := fun σ H R => t σ H fun vs H1 => tk σ H1 fun zs H2 => match vs, zs with
  | [.ref l], [.int n] => (match H2 l with
    | some (.lst _) => -(2 ^ 62) ≤ n ∧ n < 2 ^ 62 ∧ R (Ite K l n) H2
    | _ => False)
  | _, _ => False
theorem pi_enum {X : Cx} {elts : List Expr} {kk : Nat} {tpos : Pos} {e d : Expr} {t tk : TA} {p pos kp : Pos} (hg : Gl X "enumerate") (hm : X.mg "enumerate" = none) (ha : PA X [e] t) (hk : PK X [⟨some "start", d, kp⟩] tk)
    (he : backTo pos (starEach [e] X.env) = (false, eval e X.env) :: backTo pos (starEach [] X.env) := by rfl) (hpl : (backTo pos (starEach [e] X.env)).any (·.1) = false := by rfl) :
    PI X (.Tuple elts kk tpos) (.Call (.Name "enumerate" p) [e] [⟨some "start", d, kp⟩] pos) (iEnumF X.K t tk) := by
  intro pins s σ H R I h
  refine wpAny_Call_Name_kw (ld_blt I hg hm boot_enumerate ?_)
  refine callWithTK (thn (ha pos pins s σ H _ I h) fun us s1 ⟨vs, H1, I1, r, q⟩ => thn (hk pos pins s1 σ H1 _ I1 q) fun ws s2 ⟨zs, H2, I2, rz, q2⟩ => ?_) he hpl rfl rfl
  match vs, zs, q2 with
  | [.ref l], [.int n], q2 =>
    obtain ⟨u, e0, ra⟩ := r.one
    obtain ⟨u', e1, td, ed⟩ := rz.one
    cases ra
    subst e0 e1 ed
    have q' : (match H2 l with
      | some (.lst _) => -(2 ^ 62) ≤ n ∧ n < 2 ^ 62 ∧ R (Ite X.K l n) H2
      | _ => False) := q2
    split at q'
    · rename_i xs e
      obtain ⟨b1, b2, q3⟩ := q'
      obtain ⟨us, r1, p1, _⟩ := I2.list (SqL.of e)
      show wpAny _ _ (call (.type "enumerate") [.ref l] [(Str.ofString "start", .int n td)]) _ _ s2
      refine enumN_new p1.isList b1 b2 fun h' hz h1 hk => ?_
      refine wpAny_pyIter_enum (s := { s2 with heap := h' }) hz ?_
      have D : s2.heap.objs.size + 1 ≠ s2.heap.objs.size := Nat.succ_ne_self _
      refine ⟨_, [s2.heap.objs.size + 1, s2.heap.objs.size], _, _, H2, rfl, I2.kept (t' := s2.toks) hk, turn_enum D, ⟨⟨_, by rw [Int.natCast_zero, Int.add_zero]; exact hz⟩, h1⟩, fun b hb => ?_, q3⟩
      have hb' : s2.heap.objs.size ≤ b := by
        simp only [List.mem_cons, List.not_mem_nil, or_false] at hb
        rcases hb with rfl | rfl
        · exact Nat.le_add_right _ _
        · exact Nat.le_refl _
      exact I2.fpOk hb' (I2.hok.fresh hb')
    · exact q'.elim
theorem compZW_enum {K : PySem.W.Frag} {l D : Addr} {n : Int} {xs : List V} {te : TE} {σ : St} {H : Hp} {Q : VK} (Pv : Nat → List V → Hp → Prop) (h0 : Pv 0 [] H) (hsz : xs.length ≤ sizeLine)
    (hD : ∀ i zs H, i ≤ xs.length → Pv i zs H → H D = some (.lst zs) ∧ SqL K H l xs ∧ zs.length = i)
    (hs : ∀ i x zs H p H', xs[i]? = some x → Pv i zs H → H p = none → Same H H' → H' p = some (.tup [.int (n + (i : Int)), x]) → te (some (.int (n + (i : Int))) :: some x :: σ) H' fun z H2 => H2 D = some (.lst zs) ∧ ∀ H3, SameB D H2 H3 → H3 D = some (.lst (zs ++ [z])) → Pv (i + 1) (zs ++ [z]) H3)
    (hd : ∀ zs H, Pv xs.length zs H → Q (.ref D) H) : CompZW (Ite K l n) te D σ H Q ⟨⟩ := by
  refine ⟨xs.length, Pv, h0, fun i zs H hi p => ?_⟩
  obtain ⟨e1, e2, e4⟩ := hD i zs H hi p
  refine ⟨e1, ?_⟩
  by_cases hlt : i < xs.length
  · have hx : xs[i]? = some (xs[i]'(by omega)) := List.getElem?_eq_getElem _
    refine .inr ⟨hlt, ⟨xs, _, e2, hx⟩, by omega, fun v H' q => ?_⟩
    obtain ⟨q, x, rfl, nq, rfl, k1⟩ := q
    exact ⟨q, _, x, rfl, upd_same, hs i x zs H q _ (k1 _ e2) p nq (Same.upd nq) upd_same⟩
  · have e : i = xs.length := by omega
    subst e
    exact .inl ⟨⟨xs, e2, Nat.le_refl _⟩, hd zs H p⟩
end L2

namespace L2
open PySem PySem.Spec PyProof.Rows
def tBM0F (chk : V → Hp → Bool) (r : V → List V → Hp → VK → Prop) (to : TE) : TE := fun σ H Q => to σ H fun x H1 => chk x H1 = true ∧ r x [] H1 Q
section
variable {X : Cx} {o : Expr} {to : TE} {name : Str} {apos cpos : Pos} {T id : String} {r : V → List V → Hp → VK → Prop} {chk : V → Hp → Bool}
def rClrF : V → List V → Hp → VK → Prop := fun x vs H Q => match x, vs with
  | .ref l, [] => (match H l with
    | some (.lst _) => All (fun v H1 => v = .non ∧ SameB l H H1 ∧ H1 l = some (.lst [])) Q ⟨⟩ ⟨⟩
    | _ => False)
  | _, _ => False
def rJoinF : V → List V → Hp → VK → Prop := fun x vs H Q => match x, vs with
  | .str z, [.ref l] => (match H l with
    | some (.lst xs) => ∃ ys : List Str, xs = ys.map V.str ∧ JoinOk z ys = true ∧ Q (.str (Txt.join z ys)) H
    | _ => False)
  | _, _ => False
theorem vals_texts : ∀ {ys : List Str} {us : List Value}, Vals (ys.map V.str) us → ∃ l : List (Str × Tok), us = strValues l ∧ l.map (·.1) = ys
  | [], _, h => by
    cases h
    exact ⟨[], rfl, rfl⟩
  | y :: ys, _, h => by
    cases h with
    | cons a b =>
      obtain ⟨t, rfl⟩ := a
      obtain ⟨l, rfl, e⟩ := vals_texts b
      exact ⟨(y, t) :: l, rfl, by rw [List.map_cons, e]⟩
theorem mt_joinF : MtR X "str.join" rJoinF := by
  intro pins s σ H x vs v us Q I rx rv h
  match x, vs, h with
  | .str z, [.ref l], h =>
    have h' : (match H l with
      | some (.lst xs) => ∃ ys : List Str, xs = ys.map V.str ∧ JoinOk z ys = true ∧ Q (.str (Txt.join z ys)) H
      | _ => False) := h
    split at h'
    · rename_i xs hH
      obtain ⟨ys, rfl, ok, q⟩ := h'
      obtain ⟨t, rfl⟩ := rx
      obtain ⟨u, rfl, ru⟩ := rv.one
      cases ru
      obtain ⟨its, n, r, ho, hz⟩ := I.lst hH
      obtain ⟨lt, rfl, e⟩ := vals_texts r
      exact SC.join ⟨_, ho, rfl, _, rfl⟩ e ok fun t' k => ⟨.str _, H, I.tok k, ⟨_, rfl⟩, q⟩
    · exact h'.elim
end
theorem joinOk_of {z : Str} {ys : List Str} {n : Nat} (h : ∀ y ∈ ys, y.length ≤ n) (hl : ys.length * (n + z.length) ≤ sizeLine) : JoinOk z ys = true := by
  unfold JoinOk
  have : ∀ (ys : List Str) (a : Nat), (∀ y ∈ ys, y.length ≤ n) → ys.foldl (· + ·.length + z.length) a ≤ a + ys.length * (n + z.length) := by
    intro ys
    induction ys with
    | nil => intro a _; simp
    | cons y ys ih =>
      intro a h
      have i := ih (a + y.length + z.length) fun y hy => h y (List.mem_cons_of_mem _ hy)
      have hy := h y (List.mem_cons_self ..)
      rw [List.foldl_cons, List.length_cons, Nat.succ_mul]
      omega
  have t := this ys 0 h
  rw [List.foldl_toArray]
  unfold Builtin.Str.tooLong
  simp
  omega
end L2

namespace L2
open PySem PySem.Spec PyProof.Rows
structure DctK (K : PySem.W.Frag) (w : World) (d : Addr) : Prop where
  lk : ∃ es n, K.lookup d = some ⟨.type "dict", none, .dict es n, #[]⟩ ∧ PySem.W.KeysLit w.params es.toList
  ns : (d == sysModules) = false
def rNiD (K : PySem.W.Frag) (w : World) (neg : Bool) : R2 := fun x y H Q => match x, y with
  | .str z, .ref d => DctK K w d ∧ ∃ r, PySem.W.nsIn K d z = some r ∧ Q (.bl (r.isSome != neg)) H
  | _, _ => False
section
variable {X : Cx}
theorem op_notInD {K : PySem.W.Frag} {w : World} (eK : X.K = K) (eW : X.w = w) : OpR X (compareOp .NotIn) (rNiD K w true) := by
  subst eK eW
  intro pins s σ H x y v u Q I rx ry h
  match x, y, h with
  | .str z, .ref d, ⟨⟨⟨es, n, hl, hk⟩, hn⟩, r, e, q⟩ =>
    obtain ⟨t, rfl⟩ := rx
    cases ry
    refine wpAny_notIn_of (PySem.strKind_is X.prog X.w z t) hn (PySem.W.mapOf_K (prog := X.prog) I.kIn hl (hk)) ?_
    rw [PySem.W.find_K hl e]
    rw [Bool.bne_true] at q
    exact ⟨.bl (!r.isSome), H, I.tok _, rfl, q⟩
def rIxD (K : PySem.W.Frag) (w : World) : R2 := fun x y H Q => match x, y with
  | .ref d, .str z => DctK K w d ∧ ∃ f, PySem.W.nsIn K d z = some (some (.ref f)) ∧ Q (.ref f) H
  | _, _ => False
theorem ix_D {K : PySem.W.Frag} {w : World} (eK : X.K = K) (eW : X.w = w) : IxR X (rIxD K w) := by
  subst eK eW
  intro value slice pins s σ H x y v u Q I rx ry h hs
  match x, y, h with
  | .ref d, .str z, ⟨⟨⟨es, n, hl, hk⟩, hn⟩, f, e, q⟩ =>
    obtain ⟨t, rfl⟩ := ry
    cases rx
    have hm := PySem.W.mapOf_K (prog := X.prog) (w := X.w) I.kIn hl (hk)
    exact tail_any hm.typeIs slot_dict_getitem.lookup (wpAny_getItem_of (PySem.strKind_is X.prog X.w z t) hm (PySem.W.find_K hl e) ⟨.ref f, H, I.tok _, rfl, q⟩) hs
def tCallX (f : Addr) (sp : Sp) (dvs : List V) (E : XK) (tg : TE) (t : TA) : TE := fun σ H Q => tg σ H fun x H1 => x = .ref f ∧ tCall sp dvs E t σ H1 Q
theorem pe_callX {CX : CXT} {k : Nat} {f : Addr} {fd : FuncData} {ps : List Str} {sp : Sp} {ds : List Value} {dvs : List V} {E : XK} {g e : Expr} {es : List Expr} {tg : TE} {t : TA} {pos : Pos} (F : FnOk X.prog X.w X.K X.mg X.base CX k f fd ps sp) (hr : Room k X.A) (hk : PySem.W.keepIn X.K (.ref f) = true) (hb : Binds X.K fd ps ds) (hd : Vals dvs ds) (hx : Passes CX X E)
    (hg : PE X g tg) (ha : PA X (e :: es) t) (he : starEach (e :: es) X.env = (false, eval e X.env) :: starEach es X.env := by rfl) (hpl : (backTo pos (starEach es X.env)).any (·.1) = false := by rfl)
    (hc : eval (.Call g (e :: es) [] pos) X.env = (do callWith pos (← eval g X.env) [] (backTo pos (starEach (e :: es) X.env)) (backToKw pos (keywordEach [] X.env))) := by rfl) :
    PE X (.Call g (e :: es) [] pos) (tCallX f sp dvs E tg t) := by
  intro pins s σ H Q I h
  refine Call_ (thn (hg pins s σ H _ I h) fun v s1 ⟨x, H1, I1, r1, ex, q1⟩ => ?_) hc
  subst ex
  cases r1
  refine PySem.W.callWith_K (h₀ := X.base) I1.ok.mod.kin hk (thn (ha pos pins s1 σ H1 _ I1 q1) fun us s2 ⟨vs, H2, I2, r, q⟩ => ⟨I2.kIn, ?_⟩) he hpl
  exact run_fn F hr hb hd hx I2 r q
theorem SP.unnox {pins : List (Addr × Obj)} {D : Ends} {f : Flow} {s : Shared} (h : SP X.nox pins D f s) : SP X pins D f s := by
  cases f with
  | next => obtain ⟨a, b, c, d⟩ := h; exact ⟨a, b, c.unwish, d⟩
  | brk => obtain ⟨a, b, c, d⟩ := h; exact ⟨a, b, c.unwish, d⟩
  | cont => obtain ⟨a, b, c, d⟩ := h; exact ⟨a, b, c.unwish, d⟩
  | ret u => obtain ⟨v, a, b, c, d⟩ := h; exact ⟨v, a, b, c.unwish, d⟩
theorem ps_tryN {st : Stmt} {h₀ : ExceptHandler} {hs : List ExceptHandler} {tb : TS} {pos : Pos} (hb : PS X.nox st tb) : PS X (.Try [st] (h₀ :: hs) [] [] pos) tb := by
  intro pins s σ H Dn I h
  refine wpAny_Try_except (wpAny_execs_cons (wpAny_mono (hb pins s σ H Dn (I.wish _) h) (fun f s1 q => ?_) fun e s1 z => False.elim z))
  have q' := SP.unnox q
  cases f with
  | next => exact wpAny_execs_nil (wpAny_execs_nil q')
  | ret v => exact q'
  | brk => exact q'
  | cont => exact q'
end
end L2

namespace L2
open PySem PySem.Spec PyProof.Rows
theorem cut_uniq {c : Nat} : ∀ {a a' b b' : List Nat}, a ++ c :: b = a' ++ c :: b' → c ∉ a → c ∉ a' → a = a' ∧ b = b'
  | [], [], _, _, h, _, _ => by simpa using h
  | [], d :: a', _, _, h, _, h2 => by
    rw [List.nil_append, List.cons_append, List.cons.injEq] at h
    exact absurd (by rw [h.1]; exact List.mem_cons_self) h2
  | d :: a, [], _, _, h, h1, _ => by
    rw [List.nil_append, List.cons_append, List.cons.injEq] at h
    exact absurd (by rw [h.1]; exact List.mem_cons_self) h1
  | d :: a, d' :: a', _, _, h, h1, h2 => by
    rw [List.cons_append, List.cons_append, List.cons.injEq] at h
    obtain ⟨e1, e2⟩ := cut_uniq h.2 (fun q => h1 (List.mem_cons_of_mem _ q)) (fun q => h2 (List.mem_cons_of_mem _ q))
    exact ⟨by rw [h.1, e1], e2⟩
theorem sg_join2 (c : Nat) (p q : Str) (r : List Str) : sg (Str.join ⟨#[c]⟩ (p :: q :: r)) = sg p ++ c :: sg (Str.join ⟨#[c]⟩ (q :: r)) := by
  show sg (p ++ ⟨#[c]⟩ ++ Str.join ⟨#[c]⟩ (q :: r)) = _
  rw [sg_append, sg_append, List.append_assoc]
  rfl
theorem join_uniq {c : Nat} : ∀ {ps qs : List Str}, ps ≠ [] → qs ≠ [] → (∀ p ∈ ps, c ∉ sg p) → (∀ q ∈ qs, c ∉ sg q) → sg (Str.join ⟨#[c]⟩ ps) = sg (Str.join ⟨#[c]⟩ qs) → ps = qs
  | [], _, h, _, _, _, _ => absurd rfl h
  | _ :: _, [], _, h, _, _, _ => absurd rfl h
  | [p], [q], _, _, _, _, e => by
    rw [sg_inj (show sg p = sg q from e)]
  | [p], q :: q' :: qs, _, _, fp, _, e => by
    rw [sg_join2] at e
    exact absurd (by rw [show sg p = _ from e]; simp) (fp p (List.mem_cons_self ..))
  | p :: p' :: ps, [q], _, _, _, fq, e => by
    rw [sg_join2] at e
    exact absurd (by rw [show sg q = _ from e.symm]; simp) (fq q (List.mem_cons_self ..))
  | p :: p' :: ps, q :: q' :: qs, _, _, fp, fq, e => by
    rw [sg_join2, sg_join2] at e
    obtain ⟨e1, e2⟩ := cut_uniq e (fp p (List.mem_cons_self ..)) (fq q (List.mem_cons_self ..))
    rw [sg_inj e1, join_uniq (by simp) (by simp) (fun x hx => fp x (List.mem_cons_of_mem _ hx)) (fun x hx => fq x (List.mem_cons_of_mem _ hx)) e2]
theorem splitS_eq (x y : Str) : splitS x y = Txt.split x y := rfl
theorem split_ne (x y : Str) : Txt.split x y ≠ [] := by
  unfold Txt.split
  split
  · simp
  · split
    · simp
    · rw [StrLaws.partsBetween_eq]
      obtain ⟨p, r, e⟩ := StrLaws.partsFrom_ne x y.length 0 (Builtin.Str.occurrences x y 0 x.length (x.length + 1))
      rw [e]
      simp
theorem split_join {x : Str} {c : Nat} {ps : List Str} (hn : ps ≠ []) (hf : ∀ p ∈ ps, c ∉ sg p) (h : sg x = sg (Str.join ⟨#[c]⟩ ps)) : splitS x ⟨#[c]⟩ = ps := by
  rw [splitS_eq]
  refine join_uniq (c := c) (split_ne _ _) hn (fun p hp => StrLaws.split_free x c p hp) hf ?_
  rw [StrLaws.join_split, h]
end L2

namespace L2
open PySem PySem.Spec PyProof.Rows
def tEither (t t' : TE) : TE := fun σ H Q => t σ H Q ∨ t' σ H Q
theorem pe_either {X : Cx} {e : Expr} {t t' : TE} (h : PE X e t) (h' : PE X e t') : PE X e (tEither t t') := fun pins s σ H Q I z => z.elim (h pins s σ H Q I) (h' pins s σ H Q I)
theorem dg_le : ∀ (k n : Nat), n < 10 ^ (k + 1) → (dg n).length ≤ k + 1
  | 0, n, h => by
    rw [dg_lt (by omega)]
    exact Nat.le_refl _
  | k + 1, n, h => by
    rcases Nat.lt_or_ge n 10 with z | z
    · rw [dg_lt z, List.length_singleton]
      omega
    · have e : n = 10 * (n / 10) + n % 10 := by omega
      rw [e, dg_snoc (by omega) (by omega), List.length_append, List.length_singleton]
      have := dg_le k (n / 10) (by rw [Nat.pow_succ] at h; omega)
      omega
open PySem.Builtin.Int (intBits)
def fW (x : Rat) : Str := Str.empty ++ Str.ofString (toString x.num) ++ Str.ofString "/" ++ Str.ofString (toString (x.den : Int))
def cW (c : Int × Rat) : Str := Str.empty ++ Str.ofString (toString c.1) ++ Str.ofString "=" ++ fW c.2
def nW (n : Nat) : Str := Str.ofString (toString (n : Int))
def YOk (y : Rat) : Prop := y.num.natAbs ≤ 1000 ∧ y.den ≤ 1000
inductive Dt where
  | gain (y : Rat)
  | delay (n : Nat)
  | echo (y : Rat) (n t : Nat)
  | back (y : Rat) (n : Nat)
  | hall (y : Rat) (n : Nat)
  | swell (cs : List (Int × Rat))
def Dt.kd : Dt → Nat
  | .gain _ => 0
  | .delay _ => 1
  | .echo .. => 2
  | .back .. => 3
  | .hall .. => 4
  | .swell _ => 5
def Dt.kind : Dt → Str
  | .gain _ => Str.ofString "gain"
  | .delay _ => Str.ofString "delay"
  | .echo .. => Str.ofString "echo"
  | .back .. => Str.ofString "back"
  | .hall .. => Str.ofString "hall"
  | .swell _ => Str.ofString "swell"
def Dt.vals : Dt → List Str
  | .gain y => [fW y]
  | .delay n => [nW n]
  | .echo y n t => [fW y, nW n, nW t]
  | .back y n => [fW y, nW n]
  | .hall y n => [fW y, nW n]
  | .swell cs => [Str.join ⟨#[44]⟩ (cs.map cW)]
def Dt.word (d : Dt) : Str := Str.join ⟨#[58]⟩ (d.kind :: d.vals)
def CsOk (cs : List (Int × Rat)) : Prop := (∀ c ∈ cs, 0 ≤ c.1 ∧ c.1 ≤ 100000 ∧ YOk c.2) ∧ (∀ (i : Nat) c d, cs[i]? = some c → cs[i + 1]? = some d → c.1 < d.1) ∧ 1 ≤ cs.length ∧ cs.length ≤ 12
def Dt.ok : Dt → Prop
  | .gain y => YOk y
  | .delay n => n ≤ 1000
  | .echo y n t => YOk y ∧ 1 ≤ n ∧ n ≤ 1000 ∧ t ≤ 16
  | .back y n => YOk y ∧ 1 ≤ n ∧ n ≤ 1000
  | .hall y n => YOk y ∧ (y.num.natAbs : Int) < y.den ∧ 1 ≤ n ∧ n ≤ 1000
  | .swell cs => CsOk cs
theorem log_of {t : Int} {n : Nat} (h : t.natAbs < 2 ^ n) (hn : 1 ≤ n) : t.natAbs.log2 < n := by
  rcases Nat.eq_zero_or_pos t.natAbs with z | z
  · rw [z]
    show Nat.log2 0 < n
    have : Nat.log2 0 = 0 := by decide
    omega
  · rw [Nat.log2_lt (by omega)]
    exact h
theorem int_len {t : Int} {n : Nat} (h : t.natAbs < 2 ^ n) (hn : 1 ≤ n) : (Str.ofString (toString t)).length ≤ n + 1 := by
  have e : (Str.ofString (toString t)).length = (txt t).length := by rw [← sg_len, sg_int]
  have := txt_len t
  have := log_of h hn
  omega
theorem nW_len {n : Nat} (h : n < 2 ^ 20) : (nW n).length ≤ 21 := int_len (t := (n : Int)) (n := 20) (by omega) (by decide)
theorem YOk.b {y : Rat} (h : YOk y) : intBits y.num ≤ 10 ∧ intBits (y.den : Int) ≤ 10 := ⟨intBits_le_iff.mpr (Nat.lt_of_le_of_lt h.1 (by decide)), intBits_le_iff.mpr (Nat.lt_of_le_of_lt (show (y.den : Int).natAbs ≤ 1000 from h.2) (by decide))⟩
theorem fW_len {x : Rat} (h1 : intBits x.num ≤ 10) (h2 : intBits (x.den : Int) ≤ 10) : (fW x).length ≤ 23 := by
  have a := int_len (intBits_le_iff.mp h1) (by decide)
  have b := int_len (intBits_le_iff.mp h2) (by decide)
  have e0 : Str.empty.length = 0 := rfl
  have e1 : (Str.ofString "/").length = 1 := by decide +kernel
  unfold fW
  simp only [strLen_append, e0, e1]
  omega
theorem cW_len {c : Int × Rat} (h0 : c.1.natAbs < 2 ^ 20) (h1 : intBits c.2.num ≤ 10) (h2 : intBits (c.2.den : Int) ≤ 10) : (cW c).length ≤ 45 := by
  have a := int_len h0 (by decide)
  have b := fW_len h1 h2
  have e0 : Str.empty.length = 0 := rfl
  have e1 : (Str.ofString "=").length = 1 := by decide +kernel
  unfold cW
  simp only [strLen_append, e0, e1]
  omega
theorem sg_nW (n : Nat) : sg (nW n) = txt (n : Int) := sg_int _
theorem sg_fW (y : Rat) : sg (fW y) = ftxt y.num (y.den : Int) := by
  unfold fW ftxt
  rw [sg_append, sg_append, sg_append, sg_int, sg_int]
  have e4 : sg Str.empty = [] := rfl
  have e5 : sg (Str.ofString "/") = [47] := by decide +kernel
  rw [e4, e5]
  simp
theorem sg_cW (c : Int × Rat) : sg (cW c) = txt c.1 ++ 61 :: sg (fW c.2) := by
  unfold cW
  rw [sg_append, sg_append, sg_append, sg_int]
  have e4 : sg Str.empty = [] := rfl
  have e5 : sg (Str.ofString "=") = [61] := by decide +kernel
  rw [e4, e5]
  simp
theorem good_fW {y : Rat} (h : YOk y) : Good (sg (fW y)) y.num (y.den : Int) := by
  have dp := y.den_pos
  refine ⟨sg_fW y, by omega, y.reduced, ?_, ?_⟩
  · exact dg_le 8 _ (Nat.lt_of_le_of_lt h.1 (by decide))
  · exact dg_le 8 _ (Nat.lt_of_le_of_lt (show (y.den : Int).natAbs ≤ 1000 from h.2) (by decide))
theorem fW_no {c : Nat} (h1 : c ≠ 45) (h2 : 57 < c) (y : Rat) : c ∉ sg (fW y) := by
  rw [sg_fW]
  unfold ftxt
  intro h
  rcases List.mem_append.mp h with z | z
  · exact txt_no h1 (.inr h2) z
  · rcases List.mem_cons.mp z with z | z
    · omega
    · exact txt_no h1 (.inr h2) z
theorem nW_no {c : Nat} (h1 : c ≠ 45) (h2 : c < 48 ∨ 57 < c) (n : Nat) : c ∉ sg (nW n) := by
  rw [sg_nW]
  exact txt_no h1 h2
theorem fW_no44 (y : Rat) : 44 ∉ sg (fW y) := by
  rw [sg_fW]
  unfold ftxt
  intro h
  rcases List.mem_append.mp h with z | z
  · exact txt_no (by decide) (.inl (by decide)) z
  · rcases List.mem_cons.mp z with z | z
    · omega
    · exact txt_no (by decide) (.inl (by decide)) z
theorem cW_no44 (c : Int × Rat) : 44 ∉ sg (cW c) := by
  rw [sg_cW]
  intro h
  rcases List.mem_append.mp h with z | z
  · exact txt_no (by decide) (.inl (by decide)) z
  · rcases List.mem_cons.mp z with z | z
    · omega
    · exact fW_no44 _ z
theorem cW_no58 (c : Int × Rat) : 58 ∉ sg (cW c) := by
  rw [sg_cW]
  intro h
  rcases List.mem_append.mp h with z | z
  · exact txt_no (by decide) (.inr (by decide)) z
  · rcases List.mem_cons.mp z with z | z
    · omega
    · exact fW_no (by decide) (by decide) _ z
theorem join_no {c k : Nat} (hk : c ≠ k) : ∀ {ps : List Str}, (∀ p ∈ ps, c ∉ sg p) → c ∉ sg (Str.join ⟨#[k]⟩ ps)
  | [], _ => by
    show c ∉ ([] : List Nat)
    simp
  | [p], h => h p (List.mem_cons_self ..)
  | p :: q :: r, h => by
    rw [sg_join2]
    intro z
    rcases List.mem_append.mp z with z | z
    · exact h p (List.mem_cons_self ..) z
    · rcases List.mem_cons.mp z with z | z
      · exact hk z
      · exact join_no hk (fun x hx => h x (List.mem_cons_of_mem _ hx)) z
theorem sum_le_of {b : Nat} : ∀ {l : List Nat}, (∀ x ∈ l, x ≤ b) → l.sum ≤ l.length * b
  | [], _ => Nat.zero_le _
  | x :: l, h => by
    have i := sum_le_of (l := l) fun y hy => h y (List.mem_cons_of_mem _ hy)
    have := h x (List.mem_cons_self ..)
    rw [List.sum_cons, List.length_cons, Nat.succ_mul]
    omega
theorem join_len {z : Str} {ps : List Str} {n : Nat} (h : ∀ p ∈ ps, p.length ≤ n) : (Str.join z ps).length ≤ ps.length * n + ps.length * z.length := by
  have a := StrLaws.join_length_le z ps
  have b := sum_le_of (b := n) (l := ps.map (·.length)) fun x hx => by
    obtain ⟨y, hy, rfl⟩ := List.mem_map.mp hx
    exact h y hy
  rw [List.length_map] at b
  have c : (ps.length - 1) * z.length ≤ ps.length * z.length := Nat.mul_le_mul_right _ (Nat.sub_le _ _)
  omega
theorem CsOk.len {cs : List (Int × Rat)} (h : CsOk cs) : ∀ c ∈ cs, (cW c).length ≤ 45 := fun c hc => by
  obtain ⟨a, b, y⟩ := h.1 c hc
  exact cW_len (by omega) y.b.1 y.b.2
theorem CsOk.jlen {cs : List (Int × Rat)} (h : CsOk cs) : (Str.join ⟨#[44]⟩ (cs.map cW)).length ≤ 600 := by
  have a := join_len (z := ⟨#[44]⟩) (ps := cs.map cW) (n := 45) fun p hp => by
    obtain ⟨c, hc, rfl⟩ := List.mem_map.mp hp
    exact h.len c hc
  rw [List.length_map, one_len] at a
  have := h.2.2.2
  omega
theorem Dt.free {d : Dt} : ∀ p ∈ d.kind :: d.vals, 58 ∉ sg p := by
  cases d <;> intro p hp <;> simp only [Dt.kind, Dt.vals, List.mem_cons, List.not_mem_nil, or_false] at hp
  case gain => rcases hp with rfl | rfl; decide +kernel; exact fW_no (by decide) (by decide) _
  case delay => rcases hp with rfl | rfl; decide +kernel; exact nW_no (by decide) (.inr (by decide)) _
  case echo => rcases hp with rfl | rfl | rfl | rfl; decide +kernel; exact fW_no (by decide) (by decide) _; exact nW_no (by decide) (.inr (by decide)) _; exact nW_no (by decide) (.inr (by decide)) _
  case back => rcases hp with rfl | rfl | rfl; decide +kernel; exact fW_no (by decide) (by decide) _; exact nW_no (by decide) (.inr (by decide)) _
  case hall => rcases hp with rfl | rfl | rfl; decide +kernel; exact fW_no (by decide) (by decide) _; exact nW_no (by decide) (.inr (by decide)) _
  case swell cs =>
    rcases hp with rfl | rfl
    · decide +kernel
    · refine join_no (by decide) fun p hp => ?_
      obtain ⟨c, _, rfl⟩ := List.mem_map.mp hp
      exact cW_no58 c
theorem Dt.vlen {d : Dt} (h : d.ok) : ∀ p ∈ d.kind :: d.vals, p.length ≤ 600 := by
  have k1 : (Str.ofString "gain").length = 4 := by decide +kernel
  have k2 : (Str.ofString "delay").length = 5 := by decide +kernel
  have k3 : (Str.ofString "echo").length = 4 := by decide +kernel
  have k4 : (Str.ofString "back").length = 4 := by decide +kernel
  have k5 : (Str.ofString "hall").length = 4 := by decide +kernel
  have k6 : (Str.ofString "swell").length = 5 := by decide +kernel
  have f : ∀ {y : Rat}, YOk y → (fW y).length ≤ 600 := fun h => Nat.le_trans (fW_len h.b.1 h.b.2) (by decide)
  have g : ∀ {n : Nat}, n ≤ 1000 → (nW n).length ≤ 600 := fun h => Nat.le_trans (nW_len (Nat.lt_of_le_of_lt h (by decide))) (by decide)
  cases d <;> intro p hp <;> simp only [Dt.kind, Dt.vals, List.mem_cons, List.not_mem_nil, or_false] at hp
  case gain => rcases hp with rfl | rfl; omega; exact f h
  case delay => rcases hp with rfl | rfl; omega; exact g h
  case echo => rcases hp with rfl | rfl | rfl | rfl; omega; exact f h.1; exact g h.2.2.1; exact g (Nat.le_trans h.2.2.2 (by decide))
  case back => rcases hp with rfl | rfl | rfl; omega; exact f h.1; exact g h.2.2
  case hall => rcases hp with rfl | rfl | rfl; omega; exact f h.1; exact g h.2.2.2
  case swell cs => rcases hp with rfl | rfl; omega; exact h.jlen
theorem Dt.vn {d : Dt} : d.vals.length ≤ 3 := by
  cases d <;> simp [Dt.vals]
theorem Dt.wlen {d : Dt} (h : d.ok) : d.word.length ≤ 4000 := by
  have a := join_len (z := ⟨#[58]⟩) (d.vlen h)
  have b := d.vn
  rw [List.length_cons, one_len] at a
  unfold Dt.word
  omega
theorem Dt.split (d : Dt) : splitS d.word ⟨#[58]⟩ = d.kind :: d.vals := split_join (by simp) d.free rfl
theorem split_corners {cs : List (Int × Rat)} (h : 1 ≤ cs.length) : splitS (Str.join ⟨#[44]⟩ (cs.map cW)) ⟨#[44]⟩ = cs.map cW := split_join (by intro z; have := congrArg List.length z; rw [List.length_map, List.length_nil] at this; omega) (fun p hp => by
  obtain ⟨c, _, rfl⟩ := List.mem_map.mp hp
  exact cW_no44 c) rfl
theorem split_corner {c : Int × Rat} : splitS (cW c) ⟨#[61]⟩ = [Str.ofString (toString c.1), fW c.2] := split_join (by simp) (fun p hp => by
  rcases List.mem_cons.mp hp with rfl | hp
  · rw [sg_int]
    exact txt_no (by decide) (.inr (by decide))
  · rw [List.mem_singleton.mp hp]
    exact fW_no (by decide) (by decide) _) (by rw [sg_join2, sg_cW, sg_int]; rfl)
theorem join1 (z p : Str) : Str.join z [p] = p := rfl
theorem s_emp : sg Str.empty = [] := rfl
theorem s_gain : sg (Str.ofString "gain:") = sg (Str.ofString "gain") ++ [58] := by decide +kernel
theorem s_delay : sg (Str.ofString "delay:") = sg (Str.ofString "delay") ++ [58] := by decide +kernel
theorem s_echo : sg (Str.ofString "echo:") = sg (Str.ofString "echo") ++ [58] := by decide +kernel
theorem s_back : sg (Str.ofString "back:") = sg (Str.ofString "back") ++ [58] := by decide +kernel
theorem s_hall : sg (Str.ofString "hall:") = sg (Str.ofString "hall") ++ [58] := by decide +kernel
theorem s_swell : sg (Str.ofString "swell:") = sg (Str.ofString "swell") ++ [58] := by decide +kernel
theorem s_col : sg (Str.ofString ":") = [58] := by decide +kernel
theorem t_com : Str.ofString "," = ⟨#[44]⟩ := by decide +kernel
theorem t_col : Str.ofString ":" = ⟨#[58]⟩ := by decide +kernel
theorem t_equ : Str.ofString "=" = ⟨#[61]⟩ := by decide +kernel
theorem w_gain (y : Rat) : Str.empty ++ Str.ofString "gain:" ++ fW y = (Dt.gain y).word := sg_inj (by
  simp only [Dt.word, Dt.kind, Dt.vals, sg_append, sg_join2, join1, s_emp, s_gain, s_col, List.nil_append, List.append_assoc, List.singleton_append, List.cons_append])
theorem w_delay (n : Nat) : Str.empty ++ Str.ofString "delay:" ++ nW n = (Dt.delay n).word := sg_inj (by
  simp only [Dt.word, Dt.kind, Dt.vals, sg_append, sg_join2, join1, s_emp, s_delay, s_col, List.nil_append, List.append_assoc, List.singleton_append, List.cons_append])
theorem w_echo (y : Rat) (n t : Nat) : Str.empty ++ Str.ofString "echo:" ++ fW y ++ Str.ofString ":" ++ nW n ++ Str.ofString ":" ++ nW t = (Dt.echo y n t).word := sg_inj (by
  simp only [Dt.word, Dt.kind, Dt.vals, sg_append, sg_join2, join1, s_emp, s_echo, s_col, List.nil_append, List.append_assoc, List.singleton_append, List.cons_append])
theorem w_back (y : Rat) (n : Nat) : Str.empty ++ Str.ofString "back:" ++ fW y ++ Str.ofString ":" ++ nW n = (Dt.back y n).word := sg_inj (by
  simp only [Dt.word, Dt.kind, Dt.vals, sg_append, sg_join2, join1, s_emp, s_back, s_col, List.nil_append, List.append_assoc, List.singleton_append, List.cons_append])
theorem w_hall (y : Rat) (n : Nat) : Str.empty ++ Str.ofString "hall:" ++ fW y ++ Str.ofString ":" ++ nW n = (Dt.hall y n).word := sg_inj (by
  simp only [Dt.word, Dt.kind, Dt.vals, sg_append, sg_join2, join1, s_emp, s_hall, s_col, List.nil_append, List.append_assoc, List.singleton_append, List.cons_append])
theorem tj_eq (z : Str) (ps : List Str) : Txt.join z ps = Str.join z ps := by
  show Builtin.Str.glued _ _ = _
  rw [StrLaws.glued_eq_join]
theorem w_swell (cs : List (Int × Rat)) : Str.empty ++ Str.ofString "swell:" ++ Txt.join (Str.ofString ",") (cs.map cW) = (Dt.swell cs).word := sg_inj (by
  rw [tj_eq, t_com]
  simp only [Dt.word, Dt.kind, Dt.vals, sg_append, sg_join2, join1, s_emp, s_swell, s_col, List.nil_append, List.append_assoc, List.singleton_append, List.cons_append])
end L2

set_option maxHeartbeats 4000000
namespace My
open PySem PySem.Spec PyProof.Rows L2
open PySem.Builtin.Int (intBits)

def top (i : Nat) : Stmt := PySem.Challenge.pw_mixbench_k36_whole_parts_in_cuts.main.body.getD i (.Pass ⟨0, 0, 0, 0⟩)
abbrev s_is_whole : Stmt := (top 9)
abbrev s_is_figures : Stmt := (top 10)
abbrev s_whole_of : Stmt := (top 11)
abbrev s_divisor : Stmt := (top 14)
abbrev s_multiple : Stmt := (top 15)
abbrev s_fraction : Stmt := (top 16)
abbrev s_plus : Stmt := (top 17)
abbrev s_times : Stmt := (top 18)
abbrev s_size_of : Stmt := (top 19)
abbrev s_is_under : Stmt := (top 20)
abbrev s_fraction_text : Stmt := (top 21)
abbrev s_read_fraction : Stmt := (top 22)
abbrev s_added_rows : Stmt := (top 24)
abbrev s_times_row : Stmt := (top 25)
abbrev s_delayed : Stmt := (top 27)
abbrev s_last_of : Stmt := (top 28)
abbrev s_Part_grain : Stmt := (inClass (top 29) 0)
abbrev s_Part_fresh : Stmt := (inClass (top 29) 1)
abbrev s_Gain_init : Stmt := (inClass (top 30) 0)
abbrev s_Gain_grain : Stmt := (inClass (top 30) 1)
abbrev s_Gain_through : Stmt := (inClass (top 30) 2)
abbrev s_Delay_init : Stmt := (inClass (top 31) 0)
abbrev s_Delay_through : Stmt := (inClass (top 31) 1)
abbrev s_powers_of : Stmt := (top 33)
abbrev s_toward_nought : Stmt := (top 34)
abbrev s_Echo_init : Stmt := (inClass (top 35) 0)
abbrev s_Echo_grain : Stmt := (inClass (top 35) 1)
abbrev s_Echo_through : Stmt := (inClass (top 35) 2)
abbrev s_Echo_reach : Stmt := (inClass (top 35) 3)
abbrev s_Back_init : Stmt := (inClass (top 36) 0)
abbrev s_Back_grain : Stmt := (inClass (top 36) 1)
abbrev s_Back_through : Stmt := (inClass (top 36) 2)
abbrev s_Hall_init : Stmt := (inClass (top 37) 0)
abbrev s_Hall_through : Stmt := (inClass (top 37) 1)
abbrev s_shared_bottom : Stmt := (top 39)
abbrev s_slopes_of : Stmt := (top 41)
abbrev s_over : Stmt := (top 42)
abbrev s_Swell_init : Stmt := (inClass (top 44) 0)
abbrev s_Swell_grain : Stmt := (inClass (top 44) 1)
abbrev s_Swell_fresh : Stmt := (inClass (top 44) 2)
abbrev s_Swell_line_at : Stmt := (inClass (top 44) 3)
abbrev s_Swell_gain_at : Stmt := (inClass (top 44) 4)
abbrev s_Swell_through : Stmt := (inClass (top 44) 5)
abbrev s_read_gain : Stmt := (top 51)
abbrev s_read_number : Stmt := (top 52)
abbrev s_read_many : Stmt := (top 53)
abbrev s_check_count : Stmt := (top 54)
abbrev s_gain_of : Stmt := (top 55)
abbrev s_delay_of : Stmt := (top 56)
abbrev s_echo_of : Stmt := (top 57)
abbrev s_back_of : Stmt := (top 58)
abbrev s_hall_of : Stmt := (top 59)
abbrev s_read_corner : Stmt := (top 60)
abbrev s_swell_of : Stmt := (top 61)
abbrev s_part_of : Stmt := (top 63)
abbrev s_law_cell_at : Stmt := (top 65)
abbrev s_law_whole : Stmt := (top 66)
abbrev s_law_divisor : Stmt := (top 67)
abbrev s_law_gain : Stmt := (top 68)
abbrev s_law_word : Stmt := (top 69)
abbrev s_law_tops : Stmt := (top 70)
abbrev s_law_tone : Stmt := (top 71)
abbrev s_law : Stmt := (top 72)
theorem sc_is_whole : FnScope ["value"] ["value"] (defScope s_is_whole) := ⟨rfl, rfl, rfl, by decide +kernel, rfl, by decide +kernel, by decide +kernel⟩
theorem sc_is_figures : FnScope ["text", "sign"] ["text"] (defScope s_is_figures) := ⟨rfl, rfl, rfl, by decide +kernel, rfl, by decide +kernel, by decide +kernel⟩
theorem sc_whole_of : FnScope ["text"] ["text"] (defScope s_whole_of) := ⟨rfl, rfl, rfl, by decide +kernel, rfl, by decide +kernel, by decide +kernel⟩
theorem sc_divisor : FnScope ["one", "other", "left", "right", "rest"] ["one", "other"] (defScope s_divisor) := ⟨rfl, rfl, rfl, by decide +kernel, rfl, by decide +kernel, by decide +kernel⟩
theorem sc_multiple : FnScope ["one", "other"] ["one", "other"] (defScope s_multiple) := ⟨rfl, rfl, rfl, by decide +kernel, rfl, by decide +kernel, by decide +kernel⟩
theorem sc_fraction : FnScope ["top", "bottom", "by"] ["top", "bottom"] (defScope s_fraction) := ⟨rfl, rfl, rfl, by decide +kernel, rfl, by decide +kernel, by decide +kernel⟩
theorem sc_plus : FnScope ["one", "other"] ["one", "other"] (defScope s_plus) := ⟨rfl, rfl, rfl, by decide +kernel, rfl, by decide +kernel, by decide +kernel⟩
theorem sc_times : FnScope ["one", "other"] ["one", "other"] (defScope s_times) := ⟨rfl, rfl, rfl, by decide +kernel, rfl, by decide +kernel, by decide +kernel⟩
theorem sc_size_of : FnScope ["one"] ["one"] (defScope s_size_of) := ⟨rfl, rfl, rfl, by decide +kernel, rfl, by decide +kernel, by decide +kernel⟩
theorem sc_is_under : FnScope ["one", "other"] ["one", "other"] (defScope s_is_under) := ⟨rfl, rfl, rfl, by decide +kernel, rfl, by decide +kernel, by decide +kernel⟩
theorem sc_fraction_text : FnScope ["one", "top", "bottom"] ["one"] (defScope s_fraction_text) := ⟨rfl, rfl, rfl, by decide +kernel, rfl, by decide +kernel, by decide +kernel⟩
theorem sc_read_fraction : FnScope ["text", "halves", "top", "number", "one"] ["text"] (defScope s_read_fraction) := ⟨rfl, rfl, rfl, by decide +kernel, rfl, by decide +kernel, by decide +kernel⟩
theorem sc_added_rows : FnScope ["one", "other", "shared", "both"] ["one", "other"] (defScope s_added_rows) := ⟨rfl, rfl, rfl, by decide +kernel, rfl, by decide +kernel, by decide +kernel⟩
theorem sc_times_row : FnScope ["row", "by"] ["row", "by"] (defScope s_times_row) := ⟨rfl, rfl, rfl, by decide +kernel, rfl, by decide +kernel, by decide +kernel⟩
theorem sc_delayed : FnScope ["known", "start", "many"] ["known", "start", "many"] (defScope s_delayed) := ⟨rfl, rfl, rfl, by decide +kernel, rfl, by decide +kernel, by decide +kernel⟩
theorem sc_last_of : FnScope ["known", "many"] ["known", "many"] (defScope s_last_of) := ⟨rfl, rfl, rfl, by decide +kernel, rfl, by decide +kernel, by decide +kernel⟩
theorem sc_Part_grain : FnScope ["self"] ["self"] (defScope s_Part_grain) := ⟨rfl, rfl, rfl, by decide +kernel, rfl, by decide +kernel, by decide +kernel⟩
theorem sc_Part_fresh : FnScope ["self"] ["self"] (defScope s_Part_fresh) := ⟨rfl, rfl, rfl, by decide +kernel, rfl, by decide +kernel, by decide +kernel⟩
theorem sc_Gain_init : FnScope ["self", "gain"] ["self", "gain"] (defScope s_Gain_init) := ⟨rfl, rfl, rfl, by decide +kernel, rfl, by decide +kernel, by decide +kernel⟩
theorem sc_Gain_grain : FnScope ["self"] ["self"] (defScope s_Gain_grain) := ⟨rfl, rfl, rfl, by decide +kernel, rfl, by decide +kernel, by decide +kernel⟩
theorem sc_Gain_through : FnScope ["self", "state", "tops", "bottom"] ["self", "state", "tops", "bottom"] (defScope s_Gain_through) := ⟨rfl, rfl, rfl, by decide +kernel, rfl, by decide +kernel, by decide +kernel⟩
theorem sc_Delay_init : FnScope ["self", "many"] ["self", "many"] (defScope s_Delay_init) := ⟨rfl, rfl, rfl, by decide +kernel, rfl, by decide +kernel, by decide +kernel⟩
theorem sc_Delay_through : FnScope ["self", "state", "tops", "bottom", "known"] ["self", "state", "tops", "bottom"] (defScope s_Delay_through) := ⟨rfl, rfl, rfl, by decide +kernel, rfl, by decide +kernel, by decide +kernel⟩
theorem sc_powers_of : FnScope ["number", "most", "powers", "turn"] ["number", "most"] (defScope s_powers_of) := ⟨rfl, rfl, rfl, by decide +kernel, rfl, by decide +kernel, by decide +kernel⟩
theorem sc_toward_nought : FnScope ["top", "bottom"] ["top", "bottom"] (defScope s_toward_nought) := ⟨rfl, rfl, rfl, by decide +kernel, rfl, by decide +kernel, by decide +kernel⟩
theorem sc_Echo_init : FnScope ["self", "gain", "many", "turns", "tops", "bottoms"] ["self", "gain", "many", "turns"] (defScope s_Echo_init) := ⟨rfl, rfl, rfl, by decide +kernel, rfl, by decide +kernel, by decide +kernel⟩
theorem sc_Echo_grain : FnScope ["self"] ["self"] (defScope s_Echo_grain) := ⟨rfl, rfl, rfl, by decide +kernel, rfl, by decide +kernel, by decide +kernel⟩
theorem sc_Echo_through : FnScope ["self", "state", "tops", "bottom", "known", "out", "turn", "heard"] ["self", "state", "tops", "bottom"] (defScope s_Echo_through) := ⟨rfl, rfl, rfl, by decide +kernel, rfl, by decide +kernel, by decide +kernel⟩
theorem sc_Echo_reach : FnScope ["self"] ["self"] (defScope s_Echo_reach) := ⟨rfl, rfl, rfl, by decide +kernel, rfl, by decide +kernel, by decide +kernel⟩
theorem sc_Back_init : FnScope ["self", "gain", "many"] ["self", "gain", "many"] (defScope s_Back_init) := ⟨rfl, rfl, rfl, by decide +kernel, rfl, by decide +kernel, by decide +kernel⟩
theorem sc_Back_grain : FnScope ["self"] ["self"] (defScope s_Back_grain) := ⟨rfl, rfl, rfl, by decide +kernel, rfl, by decide +kernel, by decide +kernel⟩
theorem sc_Back_through : FnScope ["self", "state", "tops", "bottom", "known", "heard", "out"] ["self", "state", "tops", "bottom"] (defScope s_Back_through) := ⟨rfl, rfl, rfl, by decide +kernel, rfl, by decide +kernel, by decide +kernel⟩
theorem sc_Hall_init : FnScope ["self", "gain", "many"] ["self", "gain", "many"] (defScope s_Hall_init) := ⟨rfl, rfl, rfl, by decide +kernel, rfl, by decide +kernel, by decide +kernel⟩
theorem sc_Hall_through : FnScope ["self", "state", "tops", "bottom", "known", "top", "heard", "whole"] ["self", "state", "tops", "bottom"] (defScope s_Hall_through) := ⟨rfl, rfl, rfl, by decide +kernel, rfl, by decide +kernel, by decide +kernel⟩
theorem sc_shared_bottom : FnScope ["bottoms", "shared", "bottom"] ["bottoms"] (defScope s_shared_bottom) := ⟨rfl, rfl, rfl, by decide +kernel, rfl, by decide +kernel, by decide +kernel⟩
theorem sc_slopes_of : FnScope ["corners", "slopes", "left", "right", "rise"] ["corners"] (defScope s_slopes_of) := ⟨rfl, rfl, rfl, by decide +kernel, rfl, by decide +kernel, by decide +kernel⟩
theorem sc_over : FnScope ["one", "bottom"] ["one", "bottom"] (defScope s_over) := ⟨rfl, rfl, rfl, by decide +kernel, rfl, by decide +kernel, by decide +kernel⟩
theorem sc_Swell_init : FnScope ["self", "corners", "slopes"] ["self", "corners"] (defScope s_Swell_init) := ⟨rfl, rfl, rfl, by decide +kernel, rfl, by decide +kernel, by decide +kernel⟩
theorem sc_Swell_grain : FnScope ["self"] ["self"] (defScope s_Swell_grain) := ⟨rfl, rfl, rfl, by decide +kernel, rfl, by decide +kernel, by decide +kernel⟩
theorem sc_Swell_fresh : FnScope ["self"] ["self"] (defScope s_Swell_fresh) := ⟨rfl, rfl, rfl, by decide +kernel, rfl, by decide +kernel, by decide +kernel⟩
theorem sc_Swell_line_at : FnScope ["self", "at", "found"] ["self", "at"] (defScope s_Swell_line_at) := ⟨rfl, rfl, rfl, by decide +kernel, rfl, by decide +kernel, by decide +kernel⟩
theorem sc_Swell_gain_at : FnScope ["self", "at", "line"] ["self", "at"] (defScope s_Swell_gain_at) := ⟨rfl, rfl, rfl, by decide +kernel, rfl, by decide +kernel, by decide +kernel⟩
theorem sc_Swell_through : FnScope ["self", "state", "tops", "bottom", "out"] ["self", "state", "tops", "bottom"] (defScope s_Swell_through) := ⟨rfl, rfl, rfl, by decide +kernel, rfl, by decide +kernel, by decide +kernel⟩
theorem sc_read_gain : FnScope ["text", "gain"] ["text"] (defScope s_read_gain) := ⟨rfl, rfl, rfl, by decide +kernel, rfl, by decide +kernel, by decide +kernel⟩
theorem sc_read_number : FnScope ["text", "least", "most", "number"] ["text", "least", "most"] (defScope s_read_number) := ⟨rfl, rfl, rfl, by decide +kernel, rfl, by decide +kernel, by decide +kernel⟩
theorem sc_read_many : FnScope ["text"] ["text"] (defScope s_read_many) := ⟨rfl, rfl, rfl, by decide +kernel, rfl, by decide +kernel, by decide +kernel⟩
theorem sc_check_count : FnScope ["values", "count"] ["values", "count"] (defScope s_check_count) := ⟨rfl, rfl, rfl, by decide +kernel, rfl, by decide +kernel, by decide +kernel⟩
theorem sc_gain_of : FnScope ["values"] ["values"] (defScope s_gain_of) := ⟨rfl, rfl, rfl, by decide +kernel, rfl, by decide +kernel, by decide +kernel⟩
theorem sc_delay_of : FnScope ["values"] ["values"] (defScope s_delay_of) := ⟨rfl, rfl, rfl, by decide +kernel, rfl, by decide +kernel, by decide +kernel⟩
theorem sc_echo_of : FnScope ["values"] ["values"] (defScope s_echo_of) := ⟨rfl, rfl, rfl, by decide +kernel, rfl, by decide +kernel, by decide +kernel⟩
theorem sc_back_of : FnScope ["values"] ["values"] (defScope s_back_of) := ⟨rfl, rfl, rfl, by decide +kernel, rfl, by decide +kernel, by decide +kernel⟩
theorem sc_hall_of : FnScope ["values", "gain"] ["values"] (defScope s_hall_of) := ⟨rfl, rfl, rfl, by decide +kernel, rfl, by decide +kernel, by decide +kernel⟩
theorem sc_read_corner : FnScope ["text", "halves"] ["text"] (defScope s_read_corner) := ⟨rfl, rfl, rfl, by decide +kernel, rfl, by decide +kernel, by decide +kernel⟩
theorem sc_swell_of : FnScope ["values", "corners", "left", "right"] ["values"] (defScope s_swell_of) := ⟨rfl, rfl, rfl, by decide +kernel, rfl, by decide +kernel, by decide +kernel⟩
theorem sc_part_of : FnScope ["word", "values"] ["word"] (defScope s_part_of) := ⟨rfl, rfl, rfl, by decide +kernel, rfl, by decide +kernel, by decide +kernel⟩
theorem sc_law_cell_at : FnScope ["_law_script", "_law_k"] ["_law_script", "_law_k"] (defScope s_law_cell_at) := ⟨rfl, rfl, rfl, by decide +kernel, rfl, by decide +kernel, by decide +kernel⟩
theorem sc_law_whole : FnScope ["_law_found"] ["_law_found"] (defScope s_law_whole) := ⟨rfl, rfl, rfl, by decide +kernel, rfl, by decide +kernel, by decide +kernel⟩
theorem sc_law_divisor : FnScope ["_law_one", "_law_other", "_law_rest"] ["_law_one", "_law_other"] (defScope s_law_divisor) := ⟨rfl, rfl, rfl, by decide +kernel, rfl, by decide +kernel, by decide +kernel⟩
theorem sc_law_gain : FnScope ["_law_mixed", "_law_hall", "_law_low", "_law_top", "_law_by"] ["_law_mixed", "_law_hall"] (defScope s_law_gain) := ⟨rfl, rfl, rfl, by decide +kernel, rfl, by decide +kernel, by decide +kernel⟩
theorem sc_law_word : FnScope ["_law_cell", "_law_mixed", "_law_kind", "_law_gain_here", "_law_many", "_law_corners", "_law_k", "_law_at"] ["_law_cell"] (defScope s_law_word) := ⟨rfl, rfl, rfl, by decide +kernel, rfl, by decide +kernel, by decide +kernel⟩
theorem sc_law_tops : FnScope ["_law_found", "_law_many", "_law_top"] ["_law_found", "_law_many"] (defScope s_law_tops) := ⟨rfl, rfl, rfl, by decide +kernel, rfl, by decide +kernel, by decide +kernel⟩
theorem sc_law_tone : FnScope ["_law_cell"] ["_law_cell"] (defScope s_law_tone) := ⟨rfl, rfl, rfl, by decide +kernel, rfl, by decide +kernel, by decide +kernel⟩
theorem sc_law : FnScope ["_law_script", "_law_part", "_law_turn", "_law_bottom", "_law_tones", "_law_grain", "_law_once", "_law_state", "_law_at", "_law_turns", "_law_many", "_law_block", "_law_found", "_law_again", "_law_first"] ["_law_script"] (defScope s_law) := ⟨rfl, rfl, rfl, by decide +kernel, rfl, by decide +kernel, by decide +kernel⟩
set_option genInjectivity false in
structure Ad where
  f_is_whole : Addr
  fd_is_whole : FuncData
  f_is_figures : Addr
  fd_is_figures : FuncData
  f_whole_of : Addr
  fd_whole_of : FuncData
  f_divisor : Addr
  fd_divisor : FuncData
  f_multiple : Addr
  fd_multiple : FuncData
  f_fraction : Addr
  fd_fraction : FuncData
  f_plus : Addr
  fd_plus : FuncData
  f_times : Addr
  fd_times : FuncData
  f_size_of : Addr
  fd_size_of : FuncData
  f_is_under : Addr
  fd_is_under : FuncData
  f_fraction_text : Addr
  fd_fraction_text : FuncData
  f_read_fraction : Addr
  fd_read_fraction : FuncData
  f_added_rows : Addr
  fd_added_rows : FuncData
  f_times_row : Addr
  fd_times_row : FuncData
  f_delayed : Addr
  fd_delayed : FuncData
  f_last_of : Addr
  fd_last_of : FuncData
  f_Part_grain : Addr
  fd_Part_grain : FuncData
  f_Part_fresh : Addr
  fd_Part_fresh : FuncData
  f_Gain_init : Addr
  fd_Gain_init : FuncData
  f_Gain_grain : Addr
  fd_Gain_grain : FuncData
  f_Gain_through : Addr
  fd_Gain_through : FuncData
  f_Delay_init : Addr
  fd_Delay_init : FuncData
  f_Delay_through : Addr
  fd_Delay_through : FuncData
  f_powers_of : Addr
  fd_powers_of : FuncData
  f_toward_nought : Addr
  fd_toward_nought : FuncData
  f_Echo_init : Addr
  fd_Echo_init : FuncData
  f_Echo_grain : Addr
  fd_Echo_grain : FuncData
  f_Echo_through : Addr
  fd_Echo_through : FuncData
  f_Echo_reach : Addr
  fd_Echo_reach : FuncData
  f_Back_init : Addr
  fd_Back_init : FuncData
  f_Back_grain : Addr
  fd_Back_grain : FuncData
  f_Back_through : Addr
  fd_Back_through : FuncData
  f_Hall_init : Addr
  fd_Hall_init : FuncData
  f_Hall_through : Addr
  fd_Hall_through : FuncData
  f_shared_bottom : Addr
  fd_shared_bottom : FuncData
  f_slopes_of : Addr
  fd_slopes_of : FuncData
  f_over : Addr
  fd_over : FuncData
  f_Swell_init : Addr
  fd_Swell_init : FuncData
  f_Swell_grain : Addr
  fd_Swell_grain : FuncData
  f_Swell_fresh : Addr
  fd_Swell_fresh : FuncData
  f_Swell_line_at : Addr
  fd_Swell_line_at : FuncData
  f_Swell_gain_at : Addr
  fd_Swell_gain_at : FuncData
  f_Swell_through : Addr
  fd_Swell_through : FuncData
  f_read_gain : Addr
  fd_read_gain : FuncData
  f_read_number : Addr
  fd_read_number : FuncData
  f_read_many : Addr
  fd_read_many : FuncData
  f_check_count : Addr
  fd_check_count : FuncData
  f_gain_of : Addr
  fd_gain_of : FuncData
  f_delay_of : Addr
  fd_delay_of : FuncData
  f_echo_of : Addr
  fd_echo_of : FuncData
  f_back_of : Addr
  fd_back_of : FuncData
  f_hall_of : Addr
  fd_hall_of : FuncData
  f_read_corner : Addr
  fd_read_corner : FuncData
  f_swell_of : Addr
  fd_swell_of : FuncData
  f_part_of : Addr
  fd_part_of : FuncData
  f_law_cell_at : Addr
  fd_law_cell_at : FuncData
  f_law_whole : Addr
  fd_law_whole : FuncData
  f_law_divisor : Addr
  fd_law_divisor : FuncData
  f_law_gain : Addr
  fd_law_gain : FuncData
  f_law_word : Addr
  fd_law_word : FuncData
  f_law_tops : Addr
  fd_law_tops : FuncData
  f_law_tone : Addr
  fd_law_tone : FuncData
  f_law : Addr
  fd_law : FuncData
  c_Part : Addr
  c_Gain : Addr
  c_Delay : Addr
  c_Echo : Addr
  c_Back : Addr
  c_Hall : Addr
  c_Swell : Addr
  u_FIGURES : Value
  u_MOST_FIGURES_wholes : Value
  u_MOST_FIGURES_ratios : Value
  u_MOST_GAIN : Value
  u_MOST_MANY : Value
  u_MOST_TURNS : Value
  u_MOST_AT : Value
  u_MOST_CORNERS : Value
  d_READERS : Addr
  wd : World
structure Tx (K : PySem.W.Frag) (mg : Str → Option Value) (A : Ad) : Prop where
  F_is_whole : Fun K "is_whole" "is_whole" s_is_whole A.f_is_whole A.fd_is_whole
  b_is_whole : Binds K A.fd_is_whole ["value"] []
  m_is_whole : mg "is_whole" = some (.ref A.f_is_whole)
  F_is_figures : Fun K "is_figures" "is_figures" s_is_figures A.f_is_figures A.fd_is_figures
  b_is_figures : Binds K A.fd_is_figures ["text"] []
  m_is_figures : mg "is_figures" = some (.ref A.f_is_figures)
  F_whole_of : Fun K "whole_of" "whole_of" s_whole_of A.f_whole_of A.fd_whole_of
  b_whole_of : Binds K A.fd_whole_of ["text"] []
  m_whole_of : mg "whole_of" = some (.ref A.f_whole_of)
  F_divisor : Fun K "divisor" "divisor" s_divisor A.f_divisor A.fd_divisor
  b_divisor : Binds K A.fd_divisor ["one", "other"] []
  m_divisor : mg "divisor" = some (.ref A.f_divisor)
  F_multiple : Fun K "multiple" "multiple" s_multiple A.f_multiple A.fd_multiple
  b_multiple : Binds K A.fd_multiple ["one", "other"] []
  m_multiple : mg "multiple" = some (.ref A.f_multiple)
  F_fraction : Fun K "fraction" "fraction" s_fraction A.f_fraction A.fd_fraction
  b_fraction : Binds K A.fd_fraction ["top", "bottom"] []
  m_fraction : mg "fraction" = some (.ref A.f_fraction)
  F_plus : Fun K "plus" "plus" s_plus A.f_plus A.fd_plus
  b_plus : Binds K A.fd_plus ["one", "other"] []
  m_plus : mg "plus" = some (.ref A.f_plus)
  F_times : Fun K "times" "times" s_times A.f_times A.fd_times
  b_times : Binds K A.fd_times ["one", "other"] []
  m_times : mg "times" = some (.ref A.f_times)
  F_size_of : Fun K "size_of" "size_of" s_size_of A.f_size_of A.fd_size_of
  b_size_of : Binds K A.fd_size_of ["one"] []
  m_size_of : mg "size_of" = some (.ref A.f_size_of)
  F_is_under : Fun K "is_under" "is_under" s_is_under A.f_is_under A.fd_is_under
  b_is_under : Binds K A.fd_is_under ["one", "other"] []
  m_is_under : mg "is_under" = some (.ref A.f_is_under)
  F_fraction_text : Fun K "fraction_text" "fraction_text" s_fraction_text A.f_fraction_text A.fd_fraction_text
  b_fraction_text : Binds K A.fd_fraction_text ["one"] []
  m_fraction_text : mg "fraction_text" = some (.ref A.f_fraction_text)
  F_read_fraction : Fun K "read_fraction" "read_fraction" s_read_fraction A.f_read_fraction A.fd_read_fraction
  b_read_fraction : Binds K A.fd_read_fraction ["text"] []
  m_read_fraction : mg "read_fraction" = some (.ref A.f_read_fraction)
  F_added_rows : Fun K "added_rows" "added_rows" s_added_rows A.f_added_rows A.fd_added_rows
  b_added_rows : Binds K A.fd_added_rows ["one", "other"] []
  m_added_rows : mg "added_rows" = some (.ref A.f_added_rows)
  F_times_row : Fun K "times_row" "times_row" s_times_row A.f_times_row A.fd_times_row
  b_times_row : Binds K A.fd_times_row ["row", "by"] []
  m_times_row : mg "times_row" = some (.ref A.f_times_row)
  F_delayed : Fun K "delayed" "delayed" s_delayed A.f_delayed A.fd_delayed
  b_delayed : Binds K A.fd_delayed ["known", "start", "many"] []
  m_delayed : mg "delayed" = some (.ref A.f_delayed)
  F_last_of : Fun K "last_of" "last_of" s_last_of A.f_last_of A.fd_last_of
  b_last_of : Binds K A.fd_last_of ["known", "many"] []
  m_last_of : mg "last_of" = some (.ref A.f_last_of)
  F_Part_grain : Fun K "grain" "Part.grain" s_Part_grain A.f_Part_grain A.fd_Part_grain
  b_Part_grain : Binds K A.fd_Part_grain ["self"] []
  F_Part_fresh : Fun K "fresh" "Part.fresh" s_Part_fresh A.f_Part_fresh A.fd_Part_fresh
  b_Part_fresh : Binds K A.fd_Part_fresh ["self"] []
  F_Gain_init : Fun K "__init__" "Gain.__init__" s_Gain_init A.f_Gain_init A.fd_Gain_init
  b_Gain_init : Binds K A.fd_Gain_init ["self", "gain"] []
  F_Gain_grain : Fun K "grain" "Gain.grain" s_Gain_grain A.f_Gain_grain A.fd_Gain_grain
  b_Gain_grain : Binds K A.fd_Gain_grain ["self"] []
  F_Gain_through : Fun K "through" "Gain.through" s_Gain_through A.f_Gain_through A.fd_Gain_through
  b_Gain_through : Binds K A.fd_Gain_through ["self", "state", "tops", "bottom"] []
  F_Delay_init : Fun K "__init__" "Delay.__init__" s_Delay_init A.f_Delay_init A.fd_Delay_init
  b_Delay_init : Binds K A.fd_Delay_init ["self", "many"] []
  F_Delay_through : Fun K "through" "Delay.through" s_Delay_through A.f_Delay_through A.fd_Delay_through
  b_Delay_through : Binds K A.fd_Delay_through ["self", "state", "tops", "bottom"] []
  F_powers_of : Fun K "powers_of" "powers_of" s_powers_of A.f_powers_of A.fd_powers_of
  b_powers_of : Binds K A.fd_powers_of ["number", "most"] []
  m_powers_of : mg "powers_of" = some (.ref A.f_powers_of)
  F_toward_nought : Fun K "toward_nought" "toward_nought" s_toward_nought A.f_toward_nought A.fd_toward_nought
  b_toward_nought : Binds K A.fd_toward_nought ["top", "bottom"] []
  m_toward_nought : mg "toward_nought" = some (.ref A.f_toward_nought)
  F_Echo_init : Fun K "__init__" "Echo.__init__" s_Echo_init A.f_Echo_init A.fd_Echo_init
  b_Echo_init : Binds K A.fd_Echo_init ["self", "gain", "many", "turns"] []
  F_Echo_grain : Fun K "grain" "Echo.grain" s_Echo_grain A.f_Echo_grain A.fd_Echo_grain
  b_Echo_grain : Binds K A.fd_Echo_grain ["self"] []
  F_Echo_through : Fun K "through" "Echo.through" s_Echo_through A.f_Echo_through A.fd_Echo_through
  b_Echo_through : Binds K A.fd_Echo_through ["self", "state", "tops", "bottom"] []
  F_Echo_reach : Fun K "reach" "Echo.reach" s_Echo_reach A.f_Echo_reach A.fd_Echo_reach
  b_Echo_reach : Binds K A.fd_Echo_reach ["self"] []
  F_Back_init : Fun K "__init__" "Back.__init__" s_Back_init A.f_Back_init A.fd_Back_init
  b_Back_init : Binds K A.fd_Back_init ["self", "gain", "many"] []
  F_Back_grain : Fun K "grain" "Back.grain" s_Back_grain A.f_Back_grain A.fd_Back_grain
  b_Back_grain : Binds K A.fd_Back_grain ["self"] []
  F_Back_through : Fun K "through" "Back.through" s_Back_through A.f_Back_through A.fd_Back_through
  b_Back_through : Binds K A.fd_Back_through ["self", "state", "tops", "bottom"] []
  F_Hall_init : Fun K "__init__" "Hall.__init__" s_Hall_init A.f_Hall_init A.fd_Hall_init
  b_Hall_init : Binds K A.fd_Hall_init ["self", "gain", "many"] []
  F_Hall_through : Fun K "through" "Hall.through" s_Hall_through A.f_Hall_through A.fd_Hall_through
  b_Hall_through : Binds K A.fd_Hall_through ["self", "state", "tops", "bottom"] []
  F_shared_bottom : Fun K "shared_bottom" "shared_bottom" s_shared_bottom A.f_shared_bottom A.fd_shared_bottom
  b_shared_bottom : Binds K A.fd_shared_bottom ["bottoms"] []
  m_shared_bottom : mg "shared_bottom" = some (.ref A.f_shared_bottom)
  F_slopes_of : Fun K "slopes_of" "slopes_of" s_slopes_of A.f_slopes_of A.fd_slopes_of
  b_slopes_of : Binds K A.fd_slopes_of ["corners"] []
  m_slopes_of : mg "slopes_of" = some (.ref A.f_slopes_of)
  F_over : Fun K "over" "over" s_over A.f_over A.fd_over
  b_over : Binds K A.fd_over ["one", "bottom"] []
  m_over : mg "over" = some (.ref A.f_over)
  F_Swell_init : Fun K "__init__" "Swell.__init__" s_Swell_init A.f_Swell_init A.fd_Swell_init
  b_Swell_init : Binds K A.fd_Swell_init ["self", "corners"] []
  F_Swell_grain : Fun K "grain" "Swell.grain" s_Swell_grain A.f_Swell_grain A.fd_Swell_grain
  b_Swell_grain : Binds K A.fd_Swell_grain ["self"] []
  F_Swell_fresh : Fun K "fresh" "Swell.fresh" s_Swell_fresh A.f_Swell_fresh A.fd_Swell_fresh
  b_Swell_fresh : Binds K A.fd_Swell_fresh ["self"] []
  F_Swell_line_at : Fun K "line_at" "Swell.line_at" s_Swell_line_at A.f_Swell_line_at A.fd_Swell_line_at
  b_Swell_line_at : Binds K A.fd_Swell_line_at ["self", "at"] []
  F_Swell_gain_at : Fun K "gain_at" "Swell.gain_at" s_Swell_gain_at A.f_Swell_gain_at A.fd_Swell_gain_at
  b_Swell_gain_at : Binds K A.fd_Swell_gain_at ["self", "at"] []
  F_Swell_through : Fun K "through" "Swell.through" s_Swell_through A.f_Swell_through A.fd_Swell_through
  b_Swell_through : Binds K A.fd_Swell_through ["self", "state", "tops", "bottom"] []
  F_read_gain : Fun K "read_gain" "read_gain" s_read_gain A.f_read_gain A.fd_read_gain
  b_read_gain : Binds K A.fd_read_gain ["text"] []
  m_read_gain : mg "read_gain" = some (.ref A.f_read_gain)
  F_read_number : Fun K "read_number" "read_number" s_read_number A.f_read_number A.fd_read_number
  b_read_number : Binds K A.fd_read_number ["text", "least", "most"] []
  m_read_number : mg "read_number" = some (.ref A.f_read_number)
  F_read_many : Fun K "read_many" "read_many" s_read_many A.f_read_many A.fd_read_many
  b_read_many : Binds K A.fd_read_many ["text"] []
  m_read_many : mg "read_many" = some (.ref A.f_read_many)
  F_check_count : Fun K "check_count" "check_count" s_check_count A.f_check_count A.fd_check_count
  b_check_count : Binds K A.fd_check_count ["values", "count"] []
  m_check_count : mg "check_count" = some (.ref A.f_check_count)
  F_gain_of : Fun K "gain_of" "gain_of" s_gain_of A.f_gain_of A.fd_gain_of
  b_gain_of : Binds K A.fd_gain_of ["values"] []
  m_gain_of : mg "gain_of" = some (.ref A.f_gain_of)
  F_delay_of : Fun K "delay_of" "delay_of" s_delay_of A.f_delay_of A.fd_delay_of
  b_delay_of : Binds K A.fd_delay_of ["values"] []
  m_delay_of : mg "delay_of" = some (.ref A.f_delay_of)
  F_echo_of : Fun K "echo_of" "echo_of" s_echo_of A.f_echo_of A.fd_echo_of
  b_echo_of : Binds K A.fd_echo_of ["values"] []
  m_echo_of : mg "echo_of" = some (.ref A.f_echo_of)
  F_back_of : Fun K "back_of" "back_of" s_back_of A.f_back_of A.fd_back_of
  b_back_of : Binds K A.fd_back_of ["values"] []
  m_back_of : mg "back_of" = some (.ref A.f_back_of)
  F_hall_of : Fun K "hall_of" "hall_of" s_hall_of A.f_hall_of A.fd_hall_of
  b_hall_of : Binds K A.fd_hall_of ["values"] []
  m_hall_of : mg "hall_of" = some (.ref A.f_hall_of)
  F_read_corner : Fun K "read_corner" "read_corner" s_read_corner A.f_read_corner A.fd_read_corner
  b_read_corner : Binds K A.fd_read_corner ["text"] []
  m_read_corner : mg "read_corner" = some (.ref A.f_read_corner)
  F_swell_of : Fun K "swell_of" "swell_of" s_swell_of A.f_swell_of A.fd_swell_of
  b_swell_of : Binds K A.fd_swell_of ["values"] []
  m_swell_of : mg "swell_of" = some (.ref A.f_swell_of)
  F_part_of : Fun K "part_of" "part_of" s_part_of A.f_part_of A.fd_part_of
  b_part_of : Binds K A.fd_part_of ["word"] []
  m_part_of : mg "part_of" = some (.ref A.f_part_of)
  F_law_cell_at : Fun K "_law_cell_at" "_law_cell_at" s_law_cell_at A.f_law_cell_at A.fd_law_cell_at
  b_law_cell_at : Binds K A.fd_law_cell_at ["_law_script", "_law_k"] []
  m_law_cell_at : mg "_law_cell_at" = some (.ref A.f_law_cell_at)
  F_law_whole : Fun K "_law_whole" "_law_whole" s_law_whole A.f_law_whole A.fd_law_whole
  b_law_whole : Binds K A.fd_law_whole ["_law_found"] []
  m_law_whole : mg "_law_whole" = some (.ref A.f_law_whole)
  F_law_divisor : Fun K "_law_divisor" "_law_divisor" s_law_divisor A.f_law_divisor A.fd_law_divisor
  b_law_divisor : Binds K A.fd_law_divisor ["_law_one", "_law_other"] []
  m_law_divisor : mg "_law_divisor" = some (.ref A.f_law_divisor)
  F_law_gain : Fun K "_law_gain" "_law_gain" s_law_gain A.f_law_gain A.fd_law_gain
  b_law_gain : Binds K A.fd_law_gain ["_law_mixed", "_law_hall"] []
  m_law_gain : mg "_law_gain" = some (.ref A.f_law_gain)
  F_law_word : Fun K "_law_word" "_law_word" s_law_word A.f_law_word A.fd_law_word
  b_law_word : Binds K A.fd_law_word ["_law_cell"] []
  m_law_word : mg "_law_word" = some (.ref A.f_law_word)
  F_law_tops : Fun K "_law_tops" "_law_tops" s_law_tops A.f_law_tops A.fd_law_tops
  b_law_tops : Binds K A.fd_law_tops ["_law_found", "_law_many"] []
  m_law_tops : mg "_law_tops" = some (.ref A.f_law_tops)
  F_law_tone : Fun K "_law_tone" "_law_tone" s_law_tone A.f_law_tone A.fd_law_tone
  b_law_tone : Binds K A.fd_law_tone ["_law_cell"] []
  m_law_tone : mg "_law_tone" = some (.ref A.f_law_tone)
  F_law : Fun K "law" "law" s_law A.f_law A.fd_law
  b_law : Binds K A.fd_law ["_law_script"] []
  m_law : mg "law" = some (.ref A.f_law)
  z_abs : mg "abs" = none
  z_bool : mg "bool" = none
  z_enumerate : mg "enumerate" = none
  z_int : mg "int" = none
  z_isinstance : mg "isinstance" = none
  z_len : mg "len" = none
  z_list : mg "list" = none
  z_max : mg "max" = none
  z_min : mg "min" = none
  z_range : mg "range" = none
  z_str : mg "str" = none
  z_tuple : mg "tuple" = none
  z_zip : mg "zip" = none
  mc_Part : mg "Part" = some (.ref A.c_Part)
  mc_Gain : mg "Gain" = some (.ref A.c_Gain)
  mc_Delay : mg "Delay" = some (.ref A.c_Delay)
  mc_Echo : mg "Echo" = some (.ref A.c_Echo)
  mc_Back : mg "Back" = some (.ref A.c_Back)
  mc_Hall : mg "Hall" = some (.ref A.c_Hall)
  mc_Swell : mg "Swell" = some (.ref A.c_Swell)
  cl_Part : Cls K A.c_Part
  me_Part_grain : Meth K A.c_Part "grain" A.f_Part_grain
  me_Part_fresh : Meth K A.c_Part "fresh" A.f_Part_fresh
  cl_Gain : Cls K A.c_Gain
  na_Gain_gain : NoAttr K A.c_Gain "gain"
  M_Gain : Mk K A.c_Gain A.f_Gain_init
  me_Gain_grain : Meth K A.c_Gain "grain" A.f_Gain_grain
  me_Gain_through : Meth K A.c_Gain "through" A.f_Gain_through
  me_Gain_fresh : Meth K A.c_Gain "fresh" A.f_Part_fresh
  cl_Delay : Cls K A.c_Delay
  na_Delay_many : NoAttr K A.c_Delay "many"
  M_Delay : Mk K A.c_Delay A.f_Delay_init
  me_Delay_through : Meth K A.c_Delay "through" A.f_Delay_through
  me_Delay_grain : Meth K A.c_Delay "grain" A.f_Part_grain
  me_Delay_fresh : Meth K A.c_Delay "fresh" A.f_Part_fresh
  cl_Echo : Cls K A.c_Echo
  na_Echo_gain : NoAttr K A.c_Echo "gain"
  na_Echo_many : NoAttr K A.c_Echo "many"
  na_Echo_turns : NoAttr K A.c_Echo "turns"
  na_Echo_factors : NoAttr K A.c_Echo "factors"
  na_Echo_factor_bottom : NoAttr K A.c_Echo "factor_bottom"
  M_Echo : Mk K A.c_Echo A.f_Echo_init
  me_Echo_grain : Meth K A.c_Echo "grain" A.f_Echo_grain
  me_Echo_through : Meth K A.c_Echo "through" A.f_Echo_through
  me_Echo_reach : Meth K A.c_Echo "reach" A.f_Echo_reach
  me_Echo_fresh : Meth K A.c_Echo "fresh" A.f_Part_fresh
  cl_Back : Cls K A.c_Back
  na_Back_gain : NoAttr K A.c_Back "gain"
  na_Back_many : NoAttr K A.c_Back "many"
  M_Back : Mk K A.c_Back A.f_Back_init
  me_Back_grain : Meth K A.c_Back "grain" A.f_Back_grain
  me_Back_through : Meth K A.c_Back "through" A.f_Back_through
  me_Back_fresh : Meth K A.c_Back "fresh" A.f_Part_fresh
  cl_Hall : Cls K A.c_Hall
  na_Hall_gain : NoAttr K A.c_Hall "gain"
  na_Hall_many : NoAttr K A.c_Hall "many"
  M_Hall : Mk K A.c_Hall A.f_Hall_init
  me_Hall_through : Meth K A.c_Hall "through" A.f_Hall_through
  me_Hall_grain : Meth K A.c_Hall "grain" A.f_Part_grain
  me_Hall_fresh : Meth K A.c_Hall "fresh" A.f_Part_fresh
  cl_Swell : Cls K A.c_Swell
  na_Swell_corners : NoAttr K A.c_Swell "corners"
  na_Swell_shared : NoAttr K A.c_Swell "shared"
  na_Swell_lines : NoAttr K A.c_Swell "lines"
  M_Swell : Mk K A.c_Swell A.f_Swell_init
  me_Swell_grain : Meth K A.c_Swell "grain" A.f_Swell_grain
  me_Swell_fresh : Meth K A.c_Swell "fresh" A.f_Swell_fresh
  me_Swell_line_at : Meth K A.c_Swell "line_at" A.f_Swell_line_at
  me_Swell_gain_at : Meth K A.c_Swell "gain_at" A.f_Swell_gain_at
  me_Swell_through : Meth K A.c_Swell "through" A.f_Swell_through
  mk_FIGURES : mg "FIGURES" = some A.u_FIGURES
  rk_FIGURES : RelV (.str "0123456789") A.u_FIGURES
  mk_MOST_FIGURES_wholes : mg "MOST_FIGURES_wholes" = some A.u_MOST_FIGURES_wholes
  rk_MOST_FIGURES_wholes : RelV (.int 13) A.u_MOST_FIGURES_wholes
  mk_MOST_FIGURES_ratios : mg "MOST_FIGURES_ratios" = some A.u_MOST_FIGURES_ratios
  rk_MOST_FIGURES_ratios : RelV (.int 9) A.u_MOST_FIGURES_ratios
  mk_MOST_GAIN : mg "MOST_GAIN" = some A.u_MOST_GAIN
  rk_MOST_GAIN : RelV (.int 1000) A.u_MOST_GAIN
  mk_MOST_MANY : mg "MOST_MANY" = some A.u_MOST_MANY
  rk_MOST_MANY : RelV (.int 1000) A.u_MOST_MANY
  mk_MOST_TURNS : mg "MOST_TURNS" = some A.u_MOST_TURNS
  rk_MOST_TURNS : RelV (.int 16) A.u_MOST_TURNS
  mk_MOST_AT : mg "MOST_AT" = some A.u_MOST_AT
  rk_MOST_AT : RelV (.int 100000) A.u_MOST_AT
  mk_MOST_CORNERS : mg "MOST_CORNERS" = some A.u_MOST_CORNERS
  rk_MOST_CORNERS : RelV (.int 12) A.u_MOST_CORNERS
  md_READERS : mg "READERS" = some (.ref A.d_READERS)
  dk_READERS : DctK K A.wd A.d_READERS
  rd_READERS_gain : PySem.W.nsIn K A.d_READERS "gain" = some (some (.ref A.f_gain_of))
  rd_READERS_delay : PySem.W.nsIn K A.d_READERS "delay" = some (some (.ref A.f_delay_of))
  rd_READERS_echo : PySem.W.nsIn K A.d_READERS "echo" = some (some (.ref A.f_echo_of))
  rd_READERS_back : PySem.W.nsIn K A.d_READERS "back" = some (some (.ref A.f_back_of))
  rd_READERS_swell : PySem.W.nsIn K A.d_READERS "swell" = some (some (.ref A.f_swell_of))
  rd_READERS_hall : PySem.W.nsIn K A.d_READERS "hall" = some (some (.ref A.f_hall_of))
theorem nq0 : (("__init__" : Str) == ("gain" : Str)) = false := by decide +kernel
theorem nq1 : (("grain" : Str) == ("gain" : Str)) = false := by decide +kernel
theorem nq2 : (("through" : Str) == ("gain" : Str)) = false := by decide +kernel
theorem nq3 : (("fresh" : Str) == ("gain" : Str)) = false := by decide +kernel
theorem nq4 : (("reach" : Str) == ("gain" : Str)) = false := by decide +kernel
theorem nq5 : (("__init__" : Str) == ("many" : Str)) = false := by decide +kernel
theorem nq6 : (("through" : Str) == ("many" : Str)) = false := by decide +kernel
theorem nq7 : (("reach" : Str) == ("many" : Str)) = false := by decide +kernel
theorem nq8 : (("grain" : Str) == ("many" : Str)) = false := by decide +kernel
theorem nq9 : (("fresh" : Str) == ("many" : Str)) = false := by decide +kernel
theorem nq10 : (("gain" : Str) == ("many" : Str)) = false := by decide +kernel
theorem nq11 : (("gain" : Str) == ("turns" : Str)) = false := by decide +kernel
theorem nq12 : (("gain" : Str) == ("factors" : Str)) = false := by decide +kernel
theorem nq13 : (("gain" : Str) == ("factor_bottom" : Str)) = false := by decide +kernel
theorem nq14 : (("many" : Str) == ("gain" : Str)) = false := by decide +kernel
theorem nq15 : (("many" : Str) == ("turns" : Str)) = false := by decide +kernel
theorem nq16 : (("many" : Str) == ("factors" : Str)) = false := by decide +kernel
theorem nq17 : (("many" : Str) == ("factor_bottom" : Str)) = false := by decide +kernel
theorem nq18 : (("turns" : Str) == ("gain" : Str)) = false := by decide +kernel
theorem nq19 : (("turns" : Str) == ("many" : Str)) = false := by decide +kernel
theorem nq20 : (("turns" : Str) == ("factors" : Str)) = false := by decide +kernel
theorem nq21 : (("turns" : Str) == ("factor_bottom" : Str)) = false := by decide +kernel
theorem nq22 : (("factors" : Str) == ("gain" : Str)) = false := by decide +kernel
theorem nq23 : (("factors" : Str) == ("many" : Str)) = false := by decide +kernel
theorem nq24 : (("factors" : Str) == ("turns" : Str)) = false := by decide +kernel
theorem nq25 : (("factors" : Str) == ("factor_bottom" : Str)) = false := by decide +kernel
theorem nq26 : (("factor_bottom" : Str) == ("gain" : Str)) = false := by decide +kernel
theorem nq27 : (("factor_bottom" : Str) == ("many" : Str)) = false := by decide +kernel
theorem nq28 : (("factor_bottom" : Str) == ("turns" : Str)) = false := by decide +kernel
theorem nq29 : (("factor_bottom" : Str) == ("factors" : Str)) = false := by decide +kernel
theorem nq30 : (("__init__" : Str) == ("turns" : Str)) = false := by decide +kernel
theorem nq31 : (("__init__" : Str) == ("factors" : Str)) = false := by decide +kernel
theorem nq32 : (("__init__" : Str) == ("factor_bottom" : Str)) = false := by decide +kernel
theorem nq33 : (("grain" : Str) == ("turns" : Str)) = false := by decide +kernel
theorem nq34 : (("grain" : Str) == ("factors" : Str)) = false := by decide +kernel
theorem nq35 : (("grain" : Str) == ("factor_bottom" : Str)) = false := by decide +kernel
theorem nq36 : (("through" : Str) == ("turns" : Str)) = false := by decide +kernel
theorem nq37 : (("through" : Str) == ("factors" : Str)) = false := by decide +kernel
theorem nq38 : (("through" : Str) == ("factor_bottom" : Str)) = false := by decide +kernel
theorem nq39 : (("reach" : Str) == ("turns" : Str)) = false := by decide +kernel
theorem nq40 : (("reach" : Str) == ("factors" : Str)) = false := by decide +kernel
theorem nq41 : (("reach" : Str) == ("factor_bottom" : Str)) = false := by decide +kernel
theorem nq42 : (("fresh" : Str) == ("turns" : Str)) = false := by decide +kernel
theorem nq43 : (("fresh" : Str) == ("factors" : Str)) = false := by decide +kernel
theorem nq44 : (("fresh" : Str) == ("factor_bottom" : Str)) = false := by decide +kernel
theorem nq45 : (("corners" : Str) == ("shared" : Str)) = false := by decide +kernel
theorem nq46 : (("corners" : Str) == ("lines" : Str)) = false := by decide +kernel
theorem nq47 : (("shared" : Str) == ("corners" : Str)) = false := by decide +kernel
theorem nq48 : (("shared" : Str) == ("lines" : Str)) = false := by decide +kernel
theorem nq49 : (("lines" : Str) == ("corners" : Str)) = false := by decide +kernel
theorem nq50 : (("lines" : Str) == ("shared" : Str)) = false := by decide +kernel
theorem nq51 : (("__init__" : Str) == ("corners" : Str)) = false := by decide +kernel
theorem nq52 : (("__init__" : Str) == ("shared" : Str)) = false := by decide +kernel
theorem nq53 : (("__init__" : Str) == ("lines" : Str)) = false := by decide +kernel
theorem nq54 : (("grain" : Str) == ("corners" : Str)) = false := by decide +kernel
theorem nq55 : (("grain" : Str) == ("shared" : Str)) = false := by decide +kernel
theorem nq56 : (("grain" : Str) == ("lines" : Str)) = false := by decide +kernel
theorem nq57 : (("fresh" : Str) == ("corners" : Str)) = false := by decide +kernel
theorem nq58 : (("fresh" : Str) == ("shared" : Str)) = false := by decide +kernel
theorem nq59 : (("fresh" : Str) == ("lines" : Str)) = false := by decide +kernel
theorem nq60 : (("line_at" : Str) == ("corners" : Str)) = false := by decide +kernel
theorem nq61 : (("line_at" : Str) == ("shared" : Str)) = false := by decide +kernel
theorem nq62 : (("line_at" : Str) == ("lines" : Str)) = false := by decide +kernel
theorem nq63 : (("gain_at" : Str) == ("corners" : Str)) = false := by decide +kernel
theorem nq64 : (("gain_at" : Str) == ("shared" : Str)) = false := by decide +kernel
theorem nq65 : (("gain_at" : Str) == ("lines" : Str)) = false := by decide +kernel
theorem nq66 : (("through" : Str) == ("corners" : Str)) = false := by decide +kernel
theorem nq67 : (("through" : Str) == ("shared" : Str)) = false := by decide +kernel
theorem nq68 : (("through" : Str) == ("lines" : Str)) = false := by decide +kernel
theorem nq69 : (("reach" : Str) == ("corners" : Str)) = false := by decide +kernel
theorem nq70 : (("reach" : Str) == ("shared" : Str)) = false := by decide +kernel
theorem nq71 : (("reach" : Str) == ("lines" : Str)) = false := by decide +kernel
seal PE PT PA PS PSs PI PO PW PG PGs PEX PSX
local macro_rules | `(tactic| walk_at "bits") => `(tactic| first | with_reducible assumption | exact intBits_le_64 (by omega) (by omega) | exact (intBits_le_iff (m := 250)).mpr (by decide) | ((with_reducible apply intBits_mul_le) <;> walk_at "bits") | ((with_reducible apply intBits_add_le) <;> walk_at "bits") | ((with_reducible apply intBits_sub_le) <;> walk_at "bits") | ((with_reducible apply intBits_neg_le) <;> walk_at "bits") | ((with_reducible apply intBits_natAbs_le) <;> walk_at "bits") | ((with_reducible apply intBits_fdiv_le) <;> walk_at "bits") | ((with_reducible apply intBits_fmod_le) <;> walk_at "bits"))
local macro_rules | `(tactic| walk_at "mul") => `(tactic| first | exact IntMulOk.of_right (intBits_le_64 (by omega) (by omega)) | exact IntMulOk.of_left (intBits_le_64 (by omega) (by omega)) | ((with_reducible apply IntMulOk.of_le) <;> first | walk_at "bits" | decide))
local macro_rules | `(tactic| walk_at "le") => `(tactic| ((with_reducible apply Nat.le_trans) <;> first | walk_at "bits" | decide))

variable {P : Program} {w : World} {K : PySem.W.Frag} {mg : Str → Option Value} {base : Heap} {A : Ad}
def spGcd : Sp := fun vs H Q _ => match vs with | [.int a, .int b] => Q (.int (Int.gcd a b)) H | _ => False
def spMul : Sp := fun vs H Q _ => match vs with | [.int a, .int b] => intBits a ≤ 4000 ∧ intBits b ≤ 4000 ∧ Q (.int (Int.lcm a b)) H | _ => False
def spIsW : Sp := fun vs H Q _ => match vs with | [.int _] => Q (.bl true) H | _ => False
def spFrac : Sp := fun vs H Q _ => match vs with
  | [.int t, .int b] => b ≠ 0 ∧ intBits t ≤ 4000 ∧ intBits b ≤ 4000 ∧ All (FreshT H (ratV (Rat.divInt t b))) Q ⟨⟩ ⟨⟩
  | _ => False
def spFig : Sp := fun vs H Q _ => match vs with | [.str x] => Q (.bl (figs (sg x))) H | _ => False
def spFText : Sp := fun vs H Q _ => match vs with | [.ref p] => ∃ t b : Int, H p = some (.tup [.int t, .int b]) ∧ t.natAbs.log2 < 1920 ∧ b.natAbs.log2 < 1920 ∧ (∀ y : Str, sg y = ftxt t b → Q (.str y) H) | _ => False
def spRead : Sp := fun vs H Q _ => match vs with | [.str x] => ∃ t b, Good (sg x) t b ∧ All (FreshT H [.int t, .int b]) Q ⟨⟩ ⟨⟩ | _ => False
def spWho : Sp := fun vs H Q _ => match vs with
  | [.str x] => ∃ n : Nat, sg x = txt (n : Int) ∧ n < 10 ^ 9 ∧ Q (.int n) H
  | _ => False
def Two (H : Hp) (p q : Addr) (x y : Rat) : Prop := H p = some (.tup (ratV x)) ∧ H q = some (.tup (ratV y)) ∧ intBits x.num ≤ 900 ∧ intBits (x.den : Int) ≤ 900 ∧ intBits y.num ≤ 900 ∧ intBits (y.den : Int) ≤ 900
def spPlus : Sp := fun vs H Q _ => match vs with
  | [.ref p, .ref q] => ∃ x y : Rat, Two H p q x y ∧ All (FreshT H (ratV (x + y))) Q ⟨⟩ ⟨⟩
  | _ => False
def spMulR : Sp := fun vs H Q _ => match vs with
  | [.ref p, .ref q] => ∃ x y : Rat, Two H p q x y ∧ All (FreshT H (ratV (x * y))) Q ⟨⟩ ⟨⟩
  | _ => False
def spSize : Sp := fun vs H Q _ => match vs with
  | [.ref p] => ∃ x : Rat, H p = some (.tup (ratV x)) ∧ All (FreshT H (ratV (Rat.abs x))) Q ⟨⟩ ⟨⟩
  | _ => False
def spUnder : Sp := fun vs H Q _ => match vs with
  | [.ref p, .ref q] => ∃ x y : Rat, Two H p q x y ∧ Q (.bl (decide (x.num * (y.den : Int) < y.num * (x.den : Int)))) H
  | _ => False
def Rts (H : Hp) (qs : List Addr) (ss : List Rat) : Prop := qs.length = ss.length ∧ ∀ (i : Nat) q s, qs[i]? = some q → ss[i]? = some s → H q = some (.tup (ratV s))
def RtsN (l : Addr) (H : Hp) (qs : List Addr) (ss : List Rat) : Prop := qs.length = ss.length ∧ ∀ (i : Nat) q s, qs[i]? = some q → ss[i]? = some s → q ≠ l ∧ H q = some (.tup (ratV s))
def Crn (H : Hp) (ps : List Addr) (cs : List (Int × Rat)) : Prop := ps.length = cs.length ∧ ∀ (i : Nat) p c, ps[i]? = some p → cs[i]? = some c → ∃ g, H p = some (.tup [.int c.1, .ref g]) ∧ H g = some (.tup (ratV c.2))
def CrnOk (cs : List (Int × Rat)) : Prop := (∀ c ∈ cs, 0 ≤ c.1 ∧ c.1 ≤ 200000 ∧ intBits c.2.num ≤ 10 ∧ intBits (c.2.den : Int) ≤ 10) ∧ ∀ (i : Nat) c d, cs[i]? = some c → cs[i + 1]? = some d → c.1 < d.1
def lcmL (bs : List Int) : Int := bs.foldl (fun o b => (Int.lcm o b : Int)) 1
def spShared : Sp := fun vs H Q _ => match vs with
  | [.ref p] => ∃ bs : List Int, H p = some (.lst (bs.map V.int)) ∧ (∀ b ∈ bs, 1 ≤ b ∧ intBits b ≤ 64) ∧ bs.length ≤ 24 ∧ Q (.int (lcmL bs)) H
  | _ => False
def spOverR : Sp := fun vs H Q _ => match vs with
  | [.ref p, .int S] => ∃ y : Rat, H p = some (.tup (ratV y)) ∧ intBits y.num ≤ 2000 ∧ intBits (y.den : Int) ≤ 2000 ∧ intBits S ≤ 2000 ∧ Q (.int (y.num * S.fdiv y.den)) H
  | _ => False
def SlR (cs : List (Int × Rat)) (i : Nat) (s : Rat) : Prop := ∀ c d, cs[i]? = some c → cs[i + 1]? = some d → s * ((d.1 - c.1 : Int) : Rat) = d.2 - c.2
def spSlopes : Sp := fun vs H Q _ => match vs with
  | [.ref ct] => ∃ (ps : List Addr) (cs : List (Int × Rat)), H ct = some (.tup (ps.map V.ref)) ∧ Crn H ps cs ∧ CrnOk cs ∧ 1 ≤ cs.length ∧ cs.length ≤ 12 ∧
      (∀ l H' qs ss, H l = none → Same H H' → H' l = some (.lst (List.map V.ref qs)) → Rts H' qs ss → ss.length = cs.length → (∀ s ∈ ss, intBits s.num ≤ 60 ∧ intBits (s.den : Int) ≤ 60) → (∀ j s, ss[j]? = some s → SlR cs j s) → ss[cs.length - 1]? = some 0 → Q (.ref l) H')
  | _ => False
def sumR (ns ms : List Int) : List Int := (List.range (max ns.length ms.length)).map fun k => ns.getD k 0 + ms.getD k 0
def addR (ns ms : List Int) : List Int := ((List.range (min ns.length ms.length)).map fun k => ns.getD k 0 + ms.getD k 0) ++ ns.drop (min ns.length ms.length) ++ ms.drop (min ns.length ms.length)
def spAdd : Sp := fun vs H Q _ => match vs with
  | [.ref p, .ref q] => ∃ ns ms : List Int, H p = some (.lst (ns.map V.int)) ∧ H q = some (.lst (ms.map V.int)) ∧ ns.length ≤ 1000000 ∧ ms.length ≤ 1000000 ∧ All (FreshL H ((sumR ns ms).map V.int)) Q ⟨⟩ ⟨⟩
  | _ => False
def spTimes : Sp := fun vs H Q _ => match vs with
  | [.ref p, .int b] => ∃ ns : List Int, H p = some (.lst (ns.map V.int)) ∧ (∀ n ∈ ns, IntMulOk n b) ∧ ns.length ≤ 1000000 ∧ All (FreshL H ((ns.map (· * b)).map V.int)) Q ⟨⟩ ⟨⟩
  | _ => False
def delL (ns : List Int) (st n : Nat) : List Int := (List.range (ns.length - st)).map fun i => if n ≤ st + i then ns.getD (st + i - n) 0 else 0
def spDelayed : Sp := fun vs H Q _ => match vs with
  | [.ref k, .int st, .int n] => ∃ (ns : List Int) (s m : Nat), H k = some (.lst (ns.map V.int)) ∧ st = s ∧ n = m ∧ s ≤ ns.length ∧ ns.length ≤ 1000000 ∧ All (FreshL H ((delL ns s m).map V.int)) Q ⟨⟩ ⟨⟩
  | _ => False
def spLast : Sp := fun vs H Q _ => match vs with
  | [.ref k, .int n] => ∃ (ns : List Int) (m : Nat), H k = some (.lst (ns.map V.int)) ∧ n = m ∧ ns.length ≤ 1000000 ∧ All (FreshT H ((ns.drop (ns.length - m)).map V.int)) Q ⟨⟩ ⟨⟩
  | _ => False
def powL (n : Int) (m : Nat) : List Int := (List.range (m + 1)).map fun j => n ^ j
def spPow : Sp := fun vs H Q _ => match vs with
  | [.int n, .int t] => ∃ m : Nat, t = m ∧ m ≤ 16 ∧ intBits n ≤ 10 ∧ All (FreshL H ((powL n m).map V.int)) Q ⟨⟩ ⟨⟩
  | _ => False
def facF (p q : Int) (t j : Nat) : Int := p ^ j * q ^ (t - j)
def facL (p q : Int) (t : Nat) : List Int := (List.range (t + 1)).map (facF p q t)
def ecF (gt fa : Addr) (n t : Nat) (q : Int) : List (Str × V) := [("gain", .ref gt), ("many", .int n), ("turns", .int t), ("factors", .ref fa), ("factor_bottom", .int (q ^ t))]
def IsE (C : Addr) (H : Hp) (o : Addr) (p q : Int) (n t : Nat) : Prop := ∃ dx gt fa, H o = some (.ins C dx (ecF gt fa n t q)) ∧ H gt = some (.tup [.int p, .int q]) ∧ H fa = some (.tup ((facL p q t).map V.int))
def spEInit (C : Addr) : Sp := fun vs H Q _ => match vs with
  | [.ref o, .ref gt, .int n, .int t] => ∃ (dx : Addr) (m tt : Nat) (p q : Int), n = m ∧ t = tt ∧ tt ≤ 16 ∧ intBits p ≤ 10 ∧ intBits q ≤ 10 ∧ H gt = some (.tup [.int p, .int q]) ∧ H o = some (.ins C dx []) ∧
      (∀ (fa : Addr) (H1 : Hp), SameB o H H1 → H fa = none → H1 o = some (.ins C dx (ecF gt fa m tt q)) → H1 fa = some (.tup ((facL p q tt).map V.int)) → Q .non H1)
  | _ => False
def spEGrain (C : Addr) : Sp := fun vs H Q _ => match vs with
  | [.ref o] => ∃ p q n t, IsE C H o p q n t ∧ Q (.int (q ^ t)) H
  | _ => False
def spEReach (C : Addr) : Sp := fun vs H Q _ => match vs with
  | [.ref o] => ∃ p q n t, IsE C H o p q n t ∧ n ≤ 1000000 ∧ Q (.int (((n * t : Nat)) : Int)) H
  | _ => False
def echL (kn : List Int) (st n : Nat) (p q : Int) (t : Nat) : Nat → List Int
  | 0 => []
  | j + 1 => sumR (echL kn st n p q t j) ((delL kn st (j * n)).map (· * facF p q t j))
def spEThr (C : Addr) : Sp := fun vs H Q _ => match vs with
  | [.ref o, .ref st, .ref x, .int _] => ∃ (p q : Int) (n t : Nat) (zs xs : List Int), IsE C H o p q n t ∧ H st = some (.tup (zs.map V.int)) ∧ H x = some (.lst (xs.map V.int)) ∧ zs.length ≤ 100000 ∧ xs.length ≤ 100000 ∧ n ≤ 1000000 ∧ t ≤ 16 ∧ intBits p ≤ 10 ∧ intBits q ≤ 10 ∧ (∀ y ∈ zs ++ xs, intBits y ≤ 1000000) ∧
      (∀ (r ou s2 : Addr) (H1 : Hp), Same H H1 → H r = none → H ou = none → H1 r = some (.tup [.ref ou, .ref s2]) → H1 ou = some (.lst ((echL (zs ++ xs) zs.length n p q t (t + 1)).map V.int)) → H1 s2 = some (.tup (((zs ++ xs).drop ((zs ++ xs).length - n * t)).map V.int)) → Q (.ref r) H1)
  | _ => False
def psum (X : Nat → Int) (p q : Int) (t : Nat) : Nat → Int
  | 0 => 0
  | j + 1 => psum X p q t j + X j * facF p q t j
def horn (X : Nat → Int) (p q : Int) (t : Nat) : Nat → Int
  | 0 => 0
  | j + 1 => (horn X p q t j + X (t - j) * q ^ j) * p
def Tps (H : Hp) (qs : List Addr) (vs : List (List V)) : Prop := qs.length = vs.length ∧ ∀ (i : Nat) q v, qs[i]? = some q → vs[i]? = some v → H q = some (.tup v)
def TpsN (l : Addr) (H : Hp) (qs : List Addr) (vs : List (List V)) : Prop := qs.length = vs.length ∧ ∀ (i : Nat) q v, qs[i]? = some q → vs[i]? = some v → q ≠ l ∧ H q = some (.tup v)
def lnOf (S : Int) (c : Int × Rat) (s : Rat) : Int × Int × Int := (c.1, c.2.num * S.fdiv c.2.den, s.num * S.fdiv s.den)
def lnV (l : Int × Int × Int) : List V := [.int l.1, .int l.2.1, .int l.2.2]
def SwOk (cs : List (Int × Rat)) (ss : List Rat) (S : Int) : Prop := ss.length = cs.length ∧ (∀ j s, ss[j]? = some s → SlR cs j s) ∧ ss[cs.length - 1]? = some 0 ∧ 1 ≤ S ∧ intBits S ≤ 1600 ∧ (∀ c ∈ cs, (c.2.den : Int) ∣ S) ∧ (∀ s ∈ ss, (s.den : Int) ∣ S) ∧ (∀ s ∈ ss, intBits s.num ≤ 60)
def swF (ct ln : Addr) (S : Int) : List (Str × V) := [("corners", .ref ct), ("shared", .int S), ("lines", .ref ln)]
def spSwInit (C : Addr) : Sp := fun vs H Q _ => match vs with
  | [.ref o, .ref l] => ∃ (dx : Addr) (ps : List Addr) (cs : List (Int × Rat)), H o = some (.ins C dx []) ∧ H l = some (.lst (ps.map V.ref)) ∧ Crn H ps cs ∧ CrnOk cs ∧ 1 ≤ cs.length ∧ cs.length ≤ 12 ∧
      (∀ ct ln S ss us H1, SameB o H H1 → H ct = none → H1 o = some (.ins C dx (swF ct ln S)) → H1 ct = some (.tup (ps.map V.ref)) → H1 ln = some (.tup (us.map V.ref)) → Tps H1 us ((List.zipWith (lnOf S) cs ss).map lnV) → SwOk cs ss S → Q .non H1)
  | _ => False
def spIGain (C : Addr) : Sp := fun vs H Q _ => match vs with
  | [.ref o, .ref gt] => ∃ dx, H o = some (.ins C dx []) ∧ (∀ H1, SameB o H H1 → H1 o = some (.ins C dx [("gain", .ref gt)]) → Q .non H1)
  | _ => False
def spIDelay (C : Addr) : Sp := fun vs H Q _ => match vs with
  | [.ref o, .int n] => ∃ dx, H o = some (.ins C dx []) ∧ (∀ H1, SameB o H H1 → H1 o = some (.ins C dx [("many", .int n)]) → Q .non H1)
  | _ => False
def spIBack (C : Addr) : Sp := fun vs H Q _ => match vs with
  | [.ref o, .ref gt, .int n] => ∃ dx, H o = some (.ins C dx []) ∧ (∀ H1, SameB o H H1 → H1 o = some (.ins C dx [("gain", .ref gt), ("many", .int n)]) → Q .non H1)
  | _ => False
def spIHall (C : Addr) : Sp := fun vs H Q _ => match vs with
  | [.ref o, .ref gt, .int n] => ∃ dx, H o = some (.ins C dx []) ∧ (∀ H1, SameB o H H1 → H1 o = some (.ins C dx [("gain", .ref gt), ("many", .int n)]) → Q .non H1)
  | _ => False
def clsOf (A : Ad) : Dt → Addr
  | .gain _ => A.c_Gain
  | .delay _ => A.c_Delay
  | .echo .. => A.c_Echo
  | .back .. => A.c_Back
  | .hall .. => A.c_Hall
  | .swell _ => A.c_Swell
def gnF (g : Addr) : List (Str × V) := [("gain", .ref g)]
def dlF (n : Nat) : List (Str × V) := [("many", .int n)]
def bkF (g : Addr) (n : Nat) : List (Str × V) := [("gain", .ref g), ("many", .int n)]
def FsOf (H : Hp) (fs : List (Str × V)) : Dt → Prop
  | .gain y => ∃ g, fs = gnF g ∧ H g = some (.tup (ratV y))
  | .delay n => fs = dlF n
  | .echo y n t => ∃ g fa, fs = ecF g fa n t (y.den : Int) ∧ H g = some (.tup (ratV y)) ∧ H fa = some (.tup ((facL y.num (y.den : Int) t).map V.int))
  | .back y n => ∃ g, fs = bkF g n ∧ H g = some (.tup (ratV y))
  | .hall y n => ∃ g, fs = bkF g n ∧ H g = some (.tup (ratV y))
  | .swell cs => ∃ ct ln S ss us ps, fs = swF ct ln S ∧ H ct = some (.tup (List.map V.ref ps)) ∧ H ln = some (.tup (List.map V.ref us)) ∧ Tps H us ((List.zipWith (lnOf S) cs ss).map lnV) ∧ SwOk cs ss S ∧ Crn H ps cs
def IsP (A : Ad) (H : Hp) (o : Addr) (d : Dt) : Prop := ∃ dx fs, H o = some (.ins (clsOf A d) dx fs) ∧ FsOf H fs d
def IsSw (C : Addr) (H : Hp) (o : Addr) (ps : List Addr) (cs : List (Int × Rat)) (ss : List Rat) (S : Int) : Prop := ∃ dx ct ln us, H o = some (.ins C dx (swF ct ln S)) ∧ H ct = some (.tup (ps.map V.ref)) ∧ H ln = some (.tup (us.map V.ref)) ∧ Tps H us ((List.zipWith (lnOf S) cs ss).map lnV) ∧ Crn H ps cs
def spLine (C : Addr) : Sp := fun vs H Q _ => match vs with
  | [.ref o, .int t] => ∃ ps cs ss S, IsSw C H o ps cs ss S ∧ SwOk cs ss S ∧ 1 ≤ cs.length ∧ cs.length ≤ 12 ∧
      (∀ (m : Nat) u c s, cs[m]? = some c → ss[m]? = some s → H u = some (.tup (lnV (lnOf S c s))) → (m = 0 ∨ c.1 ≤ t) → (∀ d, cs[m + 1]? = some d → t < d.1) → Q (.ref u) H)
  | _ => False
def gainI (S t : Int) (c : Int × Rat) (s : Rat) : Int := c.2.num * S.fdiv c.2.den + s.num * S.fdiv s.den * max 0 (t - c.1)
def LineAt (cs : List (Int × Rat)) (ss : List Rat) (t : Int) (m : Nat) (c : Int × Rat) (s : Rat) : Prop := cs[m]? = some c ∧ ss[m]? = some s ∧ (m = 0 ∨ c.1 ≤ t) ∧ (∀ d, cs[m + 1]? = some d → t < d.1)
def spGainAt (C : Addr) : Sp := fun vs H Q _ => match vs with
  | [.ref o, .int t] => ∃ ps cs ss S, IsSw C H o ps cs ss S ∧ SwOk cs ss S ∧ CrnOk cs ∧ 1 ≤ cs.length ∧ cs.length ≤ 12 ∧ 0 ≤ t ∧ t ≤ 100000 ∧ (∀ m c s, LineAt cs ss t m c s → intBits (gainI S t c s) ≤ 2000 → Q (.int (gainI S t c s)) H)
  | _ => False
def spSwGrain (C : Addr) : Sp := fun vs H Q _ => match vs with
  | [.ref o] => ∃ ps cs ss S, IsSw C H o ps cs ss S ∧ Q (.int S) H
  | _ => False
def spSwFresh : Sp := fun vs H Q _ => match vs with
  | [.ref _] => Q (.int 0) H
  | _ => False
def spFresh : Sp := fun vs H Q _ => match vs with
  | [.ref o] => All (FreshT H []) Q ⟨⟩ ⟨⟩
  | _ => False
def IsG (C : Addr) (H : Hp) (o : Addr) (p q : Int) : Prop := ∃ dx gt, H o = some (.ins C dx [("gain", .ref gt)]) ∧ H gt = some (.tup [.int p, .int q])
def spGGrain (C : Addr) : Sp := fun vs H Q _ => match vs with
  | [.ref o] => ∃ p q, IsG C H o p q ∧ Q (.int q) H
  | _ => False
def spGThr (C : Addr) : Sp := fun vs H Q _ => match vs with
  | [.ref o, .ref st, .ref x, .int _] => ∃ (p q : Int) (xs : List Int), IsG C H o p q ∧ H x = some (.lst (xs.map V.int)) ∧ xs.length ≤ 100000 ∧ (∀ y ∈ xs, IntMulOk y p) ∧
      (∀ (r ou s2 : Addr) (H1 : Hp), Same H H1 → H r = none → H ou = none → H1 r = some (.tup [.ref ou, .ref s2]) → H1 ou = some (.lst ((xs.map (· * p)).map V.int)) → Q (.ref r) H1)
  | _ => False
def IsD (C : Addr) (H : Hp) (o : Addr) (n : Nat) : Prop := ∃ dx, H o = some (.ins C dx [("many", .int n)])
def spPGrain : Sp := fun vs H Q _ => match vs with
  | [.ref o] => Q (.int 1) H
  | _ => False
def spDThr (C : Addr) : Sp := fun vs H Q _ => match vs with
  | [.ref o, .ref st, .ref x, .int _] => ∃ (n : Nat) (zs xs : List Int), IsD C H o n ∧ H st = some (.tup (zs.map V.int)) ∧ H x = some (.lst (xs.map V.int)) ∧ zs.length ≤ 100000 ∧ xs.length ≤ 100000 ∧
      (∀ (r ou s2 : Addr) (H1 : Hp), Same H H1 → H r = none → H ou = none → H1 r = some (.tup [.ref ou, .ref s2]) → H1 ou = some (.lst ((delL (zs ++ xs) zs.length n).map V.int)) → H1 s2 = some (.tup (((zs ++ xs).drop ((zs ++ xs).length - n)).map V.int)) → Q (.ref r) H1)
  | _ => False
def spBGrain (C : Addr) : Sp := fun vs H Q _ => match vs with
  | [.ref o] => ∃ dx gt n p q, H o = some (.ins C dx (bkF gt n)) ∧ H gt = some (.tup [.int p, .int q]) ∧ Q (.int q) H
  | _ => False
def spBThr (C : Addr) : Sp := fun vs H Q _ => match vs with
  | [.ref o, .ref st, .ref x, .int _] => ∃ dx gt n p q zs xs, H o = some (.ins C dx (bkF gt n)) ∧ H gt = some (.tup [.int p, .int q]) ∧ H st = some (.tup (zs.map V.int)) ∧ H x = some (.lst (xs.map V.int)) ∧ zs.length ≤ 100000 ∧ xs.length ≤ 100000 ∧ (∀ y ∈ zs, IntMulOk y (-p)) ∧ (∀ y ∈ xs, IntMulOk y (-p)) ∧ (∀ y ∈ xs, IntMulOk y q) ∧ IntMulOk 0 (-p) ∧
      (∀ (r ou s2 : Addr) (H1 : Hp), Same H H1 → H r = none → H ou = none → H s2 = none → H1 r = some (.tup [.ref ou, .ref s2]) → H1 ou = some (.lst ((sumR (xs.map (· * q)) ((delL (zs ++ xs) zs.length n).map (· * (-p)))).map V.int)) → H1 s2 = some (.tup (((zs ++ xs).drop ((zs ++ xs).length - n)).map V.int)) → Q (.ref r) H1)
  | _ => False
def twn (t b : Int) : Int := if 0 ≤ t then t.fdiv b else -((-t).fdiv b)
def spTwn : Sp := fun vs H Q _ => match vs with
  | [.int t, .int b] => 1 ≤ b ∧ intBits b ≤ 8000 ∧ Q (.int (twn t b)) H
  | _ => False
def hadd (p q bt h : Int) : Int := twn (p * h) (q * bt)
def heard (kn : List Int) (n : Nat) : Int := if n ≤ kn.length then kn.getD (kn.length - n) 0 else 0
def hallL (p q bt : Int) (n : Nat) : List Int → List Int → List Int
  | kn, [] => kn
  | kn, x :: xs => hallL p q bt n (kn ++ [x + hadd p q bt (heard kn n) * bt]) xs
def spHThr (C : Addr) : Sp := fun vs H Q _ => match vs with
  | [.ref o, .ref st, .ref x, .int bt] => ∃ (dx gt : Addr) (n : Nat) (p q : Int) (zs xs : List Int), H o = some (.ins C dx (bkF gt n)) ∧ H gt = some (.tup [.int p, .int q]) ∧ H st = some (.tup (zs.map V.int)) ∧ H x = some (.lst (xs.map V.int)) ∧ zs.length ≤ 100000 ∧ xs.length ≤ 100000 ∧ 1 ≤ n ∧ 1 ≤ q ∧ 1 ≤ bt ∧ intBits p ≤ 64 ∧ intBits q ≤ 64 ∧ intBits bt ≤ 64 ∧
      (∀ (r ou s2 : Addr) (H1 : Hp), Same H H1 → H r = none → H ou = none → H1 r = some (.tup [.ref ou, .ref s2]) → H1 ou = some (.lst (((hallL p q bt n zs xs).drop zs.length).map V.int)) → H1 s2 = some (.tup (((hallL p q bt n zs xs).drop ((hallL p q bt n zs xs).length - n)).map V.int)) → Q (.ref r) H1)
  | _ => False
def gatS (S t : Int) : List (Int × Rat) → List Rat → Int
  | c :: cs, s :: ss => (match cs with
    | [] => gainI S t c s
    | d :: _ => if t < d.1 then gainI S t c s else gatS S t cs ss)
  | _, _ => 0
def outAt (b S : Int) (ss : List Rat) (xs : List Int) (i : Nat) : Dt → Int
  | .gain y => xs.getD i 0 * y.num
  | .delay n => if n ≤ i then xs.getD (i - n) 0 else 0
  | .echo y n t => psum (fun m => if m * n ≤ i then xs.getD (i - m * n) 0 else 0) y.num (y.den : Int) t (t + 1)
  | .back y n => xs.getD i 0 * (y.den : Int) + (if n ≤ i then xs.getD (i - n) 0 else 0) * (-y.num)
  | .hall y n => (hallL y.num (y.den : Int) b n [] xs).getD i 0
  | .swell cs => gatS S (i : Int) cs ss * xs.getD i 0
def outs (d : Dt) (b S : Int) (ss : List Rat) (xs ys : List Int) : List Int := (List.range ys.length).map fun i => outAt b S ss (xs ++ ys) (xs.length + i) d
def grainOf (S : Int) : Dt → Int
  | .gain y => y.den
  | .delay _ => 1
  | .echo y _ t => (y.den : Int) ^ t
  | .back y _ => y.den
  | .hall _ _ => 1
  | .swell _ => S
def StV (H : Hp) (b : Int) (xs : List Int) (st : V) : Dt → Prop
  | .gain _ => ∃ p, st = V.ref p
  | .delay n => ∃ p, st = V.ref p ∧ H p = some (.tup ((xs.drop (xs.length - n)).map V.int))
  | .echo _ n t => ∃ p, st = V.ref p ∧ H p = some (.tup ((xs.drop (xs.length - n * t)).map V.int))
  | .back _ n => ∃ p, st = V.ref p ∧ H p = some (.tup ((xs.drop (xs.length - n)).map V.int))
  | .hall y n => ∃ p, st = V.ref p ∧ H p = some (.tup (((hallL y.num (y.den : Int) b n [] xs).drop (xs.length - n)).map V.int))
  | .swell _ => st = V.int (xs.length : Int)
def FsS (H : Hp) (fs : List (Str × V)) (S : Int) (ss : List Rat) : Dt → Prop
  | .swell cs => ∃ ct ln us ps, fs = swF ct ln S ∧ H ct = some (.tup (List.map V.ref ps)) ∧ H ln = some (.tup (List.map V.ref us)) ∧ Tps H us ((List.zipWith (lnOf S) cs ss).map lnV) ∧ SwOk cs ss S ∧ Crn H ps cs
  | d => FsOf H fs d
def IsPS (A : Ad) (H : Hp) (o : Addr) (d : Dt) (S : Int) (ss : List Rat) : Prop := ∃ dx fs, H o = some (.ins (clsOf A d) dx fs) ∧ FsS H fs S ss d
def spThP (A : Ad) (k : Nat) : Sp := fun vs H Q _ => match vs with
  | [.ref o, st, .ref l, .int b] => ∃ (d : Dt) (S : Int) (ss : List Rat) (xs ys : List Int), d.kd = k ∧ IsPS A H o d S ss ∧ d.ok ∧ StV H b xs st d ∧ H l = some (.lst (ys.map V.int)) ∧ xs.length ≤ 40000 ∧ ys.length ≤ 40000 ∧ 1 ≤ b ∧ intBits b ≤ 64 ∧ (∀ y ∈ xs ++ ys, intBits y ≤ 100000) ∧
      (∀ r ou st' H1, Same H H1 → H r = none → H ou = none → H1 r = some (.tup [.ref ou, st']) → H1 ou = some (.lst ((outs d b S ss xs ys).map V.int)) → StV H1 b (xs ++ ys) st' d → Q (.ref r) H1)
  | _ => False
def spSwTh (C : Addr) : Sp := fun vs H Q _ => match vs with
  | [.ref o, .int n0, .ref x, .int _] => ∃ ps cs ss S, ∃ (m0 : Nat) (xs : List Int), n0 = m0 ∧ IsSw C H o ps cs ss S ∧ SwOk cs ss S ∧ CrnOk cs ∧ 1 ≤ cs.length ∧ cs.length ≤ 12 ∧ H x = some (.lst (xs.map V.int)) ∧ m0 ≤ 40000 ∧ xs.length ≤ 40000 ∧ (∀ y ∈ xs, intBits y ≤ 100000) ∧
      (∀ (r ou : Addr) (H1 : Hp), Same H H1 → H r = none → H ou = none → H1 r = some (.tup [.ref ou, .int ((m0 + xs.length : Nat) : Int)]) → H1 ou = some (.lst (((List.range xs.length).map fun i => gatS S ((m0 + i : Nat) : Int) cs ss * xs.getD i 0).map V.int)) → Q (.ref r) H1)
  | _ => False
def spGrP (A : Ad) (k : Nat) : Sp := fun vs H Q _ => match vs with
  | [.ref o] => ∃ (d : Dt) (S : Int) (ss : List Rat), d.kd = k ∧ IsPS A H o d S ss ∧ Q (.int (grainOf S d)) H
  | _ => False
def spRG : Sp := fun vs H Q _ => match vs with
  | [.str x] => ∃ y : Rat, x = fW y ∧ YOk y ∧ All (FreshT H (ratV y)) Q ⟨⟩ ⟨⟩
  | _ => False
def spRN : Sp := fun vs H Q _ => match vs with
  | [.str x, .int a, .int b] => ∃ n : Nat, sg x = txt (n : Int) ∧ n < 10 ^ 9 ∧ a ≤ n ∧ (n : Int) ≤ b ∧ Q (.int n) H
  | _ => False
def spRM : Sp := fun vs H Q _ => match vs with
  | [.str x] => ∃ n : Nat, x = nW n ∧ 1 ≤ n ∧ n ≤ 1000 ∧ Q (.int n) H
  | _ => False
def spCC : Sp := fun vs H Q _ => match vs with
  | [.ref l, .int c] => ∃ xs, H l = some (.lst xs) ∧ (xs.length : Int) = c ∧ Q .non H
  | _ => False
def spRd (A : Ad) (k : Nat) : Sp := fun vs H Q _ => match vs with
  | [.ref l] => ∃ d : Dt, d.kd = k ∧ d.ok ∧ H l = some (.lst (d.vals.map V.str)) ∧ (∀ o H1, H o = none → Same H H1 → IsP A H1 o d → Q (.ref o) H1)
  | _ => False
def spRC : Sp := fun vs H Q _ => match vs with
  | [.str x] => ∃ c : Int × Rat, x = cW c ∧ 0 ≤ c.1 ∧ c.1 ≤ 100000 ∧ YOk c.2 ∧ (∀ p g H1, H p = none → Same H H1 → H1 p = some (.tup [.int c.1, .ref g]) → H1 g = some (.tup (ratV c.2)) → Q (.ref p) H1)
  | _ => False
def spPart (A : Ad) : Sp := fun vs H Q _ => match vs with
  | [.str x] => ∃ d : Dt, d.ok ∧ x = d.word ∧ (∀ o H1, H o = none → Same H H1 → IsP A H1 o d → Q (.ref o) H1)
  | _ => False
def spCell (K : PySem.W.Frag) : Sp := fun vs H Q _ => match vs with | [.ref a, .int k] => ∃ ns : List Int, SqL K H a (ns.map V.int) ∧ 0 ≤ k ∧ Q (.int (ns.getD k.toNat 0)) H | _ => False
def spWhole : Sp := fun vs H Q _ => match vs with | [.int _] => Q (.bl true) H | _ => False
def spGcd0 : Sp := fun vs H Q _ => match vs with | [.int a, .int b] => 0 ≤ a ∧ 0 ≤ b ∧ Q (.int (Int.gcd a b)) H | _ => False
def ton4 (c : Int) : Int := if c.fmod 8 = 3 then 0 else ((c * 414213562373095048801689).fmod (10 ^ Int.toNat 24 + 7)).fmod 2000000000001 - 1000000000000
def spTone4 : Sp := fun vs H Q _ => match vs with | [.int c] => intBits c ≤ 1100000 ∧ Q (.int (ton4 c)) H | _ => False
def spGainT : Sp := fun vs H Q _ => match vs with
  | [.int m, .bl hh] => intBits m ≤ 1000 ∧ (∀ (y : Rat), YOk y → (hh = true → (y.num.natAbs : Int) < y.den) → Q (.str (fW y)) H)
  | _ => False
def spTops : Sp := fun vs H Q _ => match vs with
  | [.ref r, .int m] => ∃ (ou : Addr) (st : V) (zs : List Int), H r = some (.tup [.ref ou, st]) ∧ H ou = some (.lst (zs.map V.int)) ∧ (zs.length : Int) = m ∧ Q (.bl true) H
  | _ => False
def spWordL : Sp := fun vs H Q _ => match vs with
  | [.int c] => intBits c ≤ 1100000 ∧ (∀ (d : Dt) H1, d.ok → Same H H1 → Q (.str d.word) H1)
  | _ => False
local macro_rules | `(tactic| walk_at $s:str) => do
  unless s.getString == "rd" || s.getString == "rd*" do Lean.Macro.throwUnsupported
  let z ← `(Lean.Parser.Tactic.simpLemma| true_and)
  let y ← `(Lean.Parser.Tactic.simpStar| *)
  let x : Lean.TSyntax [`Lean.Parser.Tactic.simpStar, `Lean.Parser.Tactic.simpErase, `Lean.Parser.Tactic.simpLemma] := if s.getString == "rd" then ⟨z.raw⟩ else ⟨y.raw⟩
  `(tactic| simp (config := { maxSteps := 1000000, dsimp := false }) only [$x, ↓spGcd, ↓spMul, ↓spIsW, ↓spFrac, ↓spFig, ↓spFText, ↓spRead, ↓spWho, ↓spPlus, ↓spMulR, ↓spSize, ↓spUnder, ↓spShared, ↓spOverR, ↓spSlopes, ↓spAdd, ↓spTimes, ↓spDelayed, ↓spLast, ↓spPow, ↓spEInit, ↓spEGrain, ↓spEReach, ↓spEThr, ↓spSwInit, ↓spIGain, ↓spIDelay, ↓spIBack, ↓spIHall, ↓spLine, ↓spGainAt, ↓spSwGrain, ↓spSwFresh, ↓spFresh, ↓spGGrain, ↓spGThr, ↓spPGrain, ↓spDThr, ↓spBGrain, ↓spBThr, ↓spTwn, ↓spHThr, ↓spThP, ↓spSwTh, ↓spGrP, ↓spRG, ↓spRN, ↓spRM, ↓spCC, ↓spRd, ↓spRC, ↓spPart, ↓spCell, ↓spWhole, ↓spGcd0, ↓spTone4, ↓spGainT, ↓spTops, ↓spWordL, noxK, ↓rStr1, ↓iStr, ↓rSlA, ↓rIntF, ↓rStrI, ↓tFmt, ↓tJNil, ↓tJCons, ↓tJoin, ↓rSplit, ↓rInM, Bool.bne_false, Bool.bne_true, ↓iTupF, ↓rSlG, ↓iZipF, ↓tCompZ, noxK, ↓gSub, ↓rSetM, ↓rJoinF, ↓tCallX, ↓rIxD, ↓rNiD, ↓iEnumF, noxK, ↓tFldF, ↓sFldF, ↓sFldAugF, ↓tMethF, ↓tMakeS, asNew, ↓rInF, ↓tAugF, ↓rTupS, ↓rIsI, ↓rDivmod, ↓gNilF, ↓gConsF, ↓gTupF, lookup_same, lookup_other, putF_same, putF_other, putF_nil, List.lookup_nil, nq0, nq1, nq2, nq3, nq4, nq5, nq6, nq7, nq8, nq9, nq10, nq11, nq12, nq13, nq14, nq15, nq16, nq17, nq18, nq19, nq20, nq21, nq22, nq23, nq24, nq25, nq26, nq27, nq28, nq29, nq30, nq31, nq32, nq33, nq34, nq35, nq36, nq37, nq38, nq39, nq40, nq41, nq42, nq43, nq44, nq45, nq46, nq47, nq48, nq49, nq50, nq51, nq52, nq53, nq54, nq55, nq56, nq57, nq58, nq59, nq60, nq61, nq62, nq63, nq64, nq65, nq66, nq67, nq68, nq69, nq70, nq71, ↓tSeq, ↓tAsg, ↓tVarF, ↓tC, ↓gName, ↓tOp, ↓tUn, ↓tIfS, ↓tRet, ↓tRetN, ↓tNext, ↓tCB, ↓tCons, ↓tNil, ↓tTupS, ↓tLstS, ↓tCall, ↓tAnd, ↓tOr, ↓tNot, ↓tBF, ↓tAndF, ↓tOrF, ↓tNotF, ↓tDrop, ↓tIf, ↓tForW, ↓tWhileW, ↓iRng1F, ↓iRng2F, ↓iRng3F, ↓iListF, ↓tSl, ↓tNoPart, ↓tPartF, ↓rIF, ↓rI0F, ↓rUF, ↓rAddM, ↓rMulM, ↓rEqM, ↓rNeM, ↓rIxM, ↓rSlM, ↓rLenM, ↓rLenK, ↓rSlKF, ↓rIxS0, ↓rIsT, ↓rAbs, ↓rMin, ↓rMax, ↓rListS, ↓rSumF, ↓tComp, ↓tBMF, ↓rAppF, ↓isLst, ↓isStrV, ↓ex_at0, ↓ex_at1, ↓ex_at2, ↓ex_at3, ↓tNever, ↓tDNewS, ↓tPause, ↓tRaise, ↓tTryAs, ↓hAs, ↓L2.start, tyNm_i, tyNm_s, tyNm_b, tyNm_n, tyNm_r, isSubT, Ty.nm, CPow, cxOf_K, atI_c0, atI_c1, atI_c2, atI_c3, ite_and_same, ite_or_same, List.map_cons, List.map_nil, List.length_cons, List.length_nil, List.length_map, List.replicate, List.cons_append, List.nil_append, List.append_nil, List.getElem?_cons_zero, List.getElem?_cons_succ, List.set_cons_zero, List.set_cons_succ, Option.some.injEq, exists_eq_left', exists_eq_left, exists_and_left, V.int.injEq, V.bl.injEq, V.str.injEq, V.ref.injEq, V.ty.injEq, Value.ref.injEq, List.cons.injEq, HO.lst.injEq, HO.tup.injEq, Int.zero_add, List.length_append, and_true, true_and, scal_ii, scal_ss, scal_bb, scal_nn, scal_rr, two_line, if_true, reduceCtorEq, if_false, Bool.false_eq_true, decide_eq_true_eq, decide_eq_false_iff_not, decide_true, decide_false, Bool.or_true, Bool.true_or, Bool.or_false, Bool.false_or, Bool.and_true, Bool.true_and, Bool.and_false, Bool.false_and, or_false, false_or, Nat.zero_add, Nat.reduceAdd, Nat.reduceSub, exists_const, false_and, and_false, Bool.not_true, Bool.not_false, Bool.not_eq_true', ne_eq, not_true_eq_false, not_false_eq_true, Int.reduceEq, Int.reduceNe, Int.reduceLT, Int.reduceLE, Int.reducePow, Int.reduceMul, Int.reduceAdd, Int.reduceSub, Int.reduceNeg, Int.reduceToNat, Nat.reducePow, Nat.reduceLT, Nat.reduceLeDiff])
theorem gcd_step {l r : Int} (hl : 0 ≤ l) (hr : 0 < r) : Int.gcd r (l.fmod r) = Int.gcd l r := by
  rw [Int.fmod_eq_emod_of_nonneg _ (by omega)]
  obtain ⟨x, rfl⟩ := Int.eq_ofNat_of_zero_le hl
  obtain ⟨y, rfl⟩ := Int.eq_ofNat_of_zero_le (by omega : 0 ≤ r)
  rw [← Int.natCast_emod, Int.gcd_natCast_natCast, Int.gcd_natCast_natCast, Nat.gcd_comm x y, Nat.gcd_rec y x, Nat.gcd_comm]
theorem fmod_lt {l r : Int} (hl : 0 ≤ l) (hr : 0 < r) : 0 ≤ l.fmod r ∧ l.fmod r < r := by
  rw [Int.fmod_eq_emod_of_nonneg _ (by omega)]
  exact ⟨Int.emod_nonneg _ (by omega), Int.emod_lt_of_pos _ hr⟩
theorem fm_bnd (a : Int) {b : Int} (hb : 0 < b) : 0 ≤ a.fmod b ∧ a.fmod b < b := by
  rw [Int.fmod_eq_emod_of_nonneg _ (by omega)]
  exact ⟨Int.emod_nonneg _ (by omega), Int.emod_lt_of_pos _ hb⟩
theorem gcd_abs (a b : Int) : Int.gcd (a.natAbs : Int) (b.natAbs : Int) = Int.gcd a b := by
  rw [Int.gcd_natCast_natCast]; rfl
theorem gcd_zero {l : Int} (hl : 0 ≤ l) : ((Int.gcd l 0 : Nat) : Int) = l := by
  rw [Int.gcd_zero_right]; omega
theorem lcm_eq (a b : Int) : (a.natAbs : Int).fdiv (Int.gcd a b : Int) * (b.natAbs : Int) = (Int.lcm a b : Int) := by
  rw [Int.fdiv_eq_ediv_of_nonneg _ (Int.natCast_nonneg _), ← Int.natCast_ediv, ← Int.natCast_mul]
  congr 1
  show a.natAbs / Nat.gcd a.natAbs b.natAbs * b.natAbs = Nat.lcm a.natAbs b.natAbs
  unfold Nat.lcm
  exact Nat.div_mul_right_comm (Nat.gcd_dvd_left _ _) _
theorem lcm_zero {a b : Int} (h : a = 0 ∨ b = 0) : Int.lcm a b = 0 := by
  rcases h with rfl | rfl
  · exact Int.lcm_zero_left _
  · exact Int.lcm_zero_right _
theorem bits_gcd {a b : Int} {n : Nat} (h : a ≠ 0) (ha : intBits a ≤ n) : intBits (Int.gcd a b : Int) ≤ n := by
  refine intBits_le_of_natAbs ?_ ha
  rw [Int.natAbs_natCast]
  exact Nat.le_of_dvd (by omega) (Nat.gcd_dvd_left _ _)
theorem natAbs_quot {a g : Int} (hg : 0 < g) (h : g ∣ a) : (a.fdiv g).natAbs = a.natAbs / g.natAbs := by
  rw [Int.fdiv_eq_ediv_of_nonneg _ (by omega)]
  obtain ⟨k, rfl⟩ := h
  rw [Int.mul_ediv_cancel_left _ (by omega), Int.natAbs_mul, Nat.mul_div_cancel_left _ (by omega)]
theorem gcd_quot {a b : Int} (h : ¬ (a = 0 ∧ b = 0)) : ((Int.gcd (a.fdiv (Int.gcd a b : Int)) (b.fdiv (Int.gcd a b : Int)) : Nat) : Int) = 1 := by
  have hp : 0 < Int.gcd a b := by
    rw [Int.gcd_pos_iff]
    omega
  have e : Int.gcd (a.fdiv (Int.gcd a b : Int)) (b.fdiv (Int.gcd a b : Int)) = 1 := by
    show Nat.gcd _ _ = 1
    rw [natAbs_quot (by omega) (Int.gcd_dvd_left a b), natAbs_quot (by omega) (Int.gcd_dvd_right a b), Int.natAbs_natCast]
    exact Nat.coprime_div_gcd_div_gcd hp
  rw [e]
  rfl
theorem num_of {t b : Int} (hb : b ≠ 0) : t.fdiv (if b < 0 then -(Int.gcd t b : Int) else (Int.gcd t b : Int)) = (Rat.divInt t b).num := by
  rw [Rat.num_divInt, Int.gcd_comm b t]
  have hp : 0 < Int.gcd t b := Int.gcd_pos_of_ne_zero_right t hb
  obtain ⟨k, hk⟩ : (Int.gcd t b : Int) ∣ t := Int.gcd_dvd_left t b
  generalize hg : (Int.gcd t b : Int) = g at *
  have hg0 : 0 < g := by omega
  by_cases h : b < 0
  · rw [if_pos h, Int.sign_eq_neg_one_of_neg h, hk]
    rw [show g * k = (-g) * (-k) by grind, Int.mul_fdiv_cancel_left _ (by omega), show -1 * (-g * -k) = g * (-k) by grind, Int.mul_ediv_cancel_left _ (by omega)]
  · rw [if_neg h, Int.sign_eq_one_of_pos (by omega), hk, Int.mul_fdiv_cancel_left _ (by omega), Int.one_mul, Int.mul_ediv_cancel_left _ (by omega)]
theorem den_of {t b : Int} (hb : b ≠ 0) : b.fdiv (if b < 0 then -(Int.gcd t b : Int) else (Int.gcd t b : Int)) = ((Rat.divInt t b).den : Int) := by
  rw [Rat.den_divInt, if_neg hb, Int.gcd_comm b t]
  have hp : 0 < Int.gcd t b := Int.gcd_pos_of_ne_zero_right t hb
  obtain ⟨k, hk⟩ : (Int.gcd t b : Int) ∣ b := Int.gcd_dvd_right t b
  rw [Int.natCast_ediv]
  generalize hg : (Int.gcd t b : Int) = g at *
  have hg0 : 0 < g := by omega
  by_cases h : b < 0
  · have e : ((b.natAbs : Nat) : Int) = -b := by omega
    rw [if_pos h, e, hk, show g * k = (-g) * (-k) by grind, Int.mul_fdiv_cancel_left _ (by omega), show -(-g * -k) = g * (-k) by grind, Int.mul_ediv_cancel_left _ (by omega)]
  · have e : ((b.natAbs : Nat) : Int) = b := by omega
    rw [if_neg h, e, hk, Int.mul_fdiv_cancel_left _ (by omega), Int.mul_ediv_cancel_left _ (by omega)]
theorem plus_rat (q r : Rat) : Rat.divInt (q.num * (r.den : Int) + r.num * (q.den : Int)) ((q.den : Int) * (r.den : Int)) = q + r := by
  conv => rhs; rw [← Rat.num_divInt_den q, ← Rat.num_divInt_den r]
  rw [Rat.divInt_add_divInt _ _ (by have := q.den_pos; omega) (by have := r.den_pos; omega)]
theorem times_rat (q r : Rat) : Rat.divInt (q.num * r.num) ((q.den : Int) * (r.den : Int)) = q * r := by
  conv => rhs; rw [← Rat.num_divInt_den q, ← Rat.num_divInt_den r]
  rw [Rat.divInt_mul_divInt]
theorem abs_num (q : Rat) : (Rat.abs q).num = q.num.natAbs := by
  unfold Rat.abs
  split
  · rename_i h
    have := Rat.num_nonneg.mpr h
    omega
  · rename_i h
    have : ¬ 0 ≤ q.num := fun z => h (Rat.num_nonneg.mp z)
    show -q.num = _
    omega
theorem abs_den (q : Rat) : (Rat.abs q).den = q.den := by
  unfold Rat.abs
  split <;> rfl
theorem num_le {t b : Int} (hb : b ≠ 0) : (Rat.divInt t b).num.natAbs ≤ t.natAbs := by
  rw [Rat.num_divInt]
  have e : (b.sign * t).natAbs = t.natAbs := by
    rw [Int.natAbs_mul, Int.natAbs_sign_of_ne_zero hb, Nat.one_mul]
  rw [← e]
  exact Int.natAbs_ediv_le_natAbs _ _
theorem den_le {t b : Int} (hb : b ≠ 0) : (Rat.divInt t b).den ≤ b.natAbs := by
  rw [Rat.den_divInt, if_neg hb]
  exact Nat.div_le_self _ _
theorem ok_divisor (T : Tx K mg A) : FnOk P A.wd K mg base CX0 1 A.f_divisor A.fd_divisor ["one", "other"] spGcd := by
  refine T.F_divisor.ok sc_divisor (fun vs H Q E h => ?_) (fun cdv A' outer s H vs Q E hr h => ?_)
  · match vs, h with
    | [.int a, .int b], _ => rfl
  · match vs, h with
    | [.int a, .int b], q =>
    have q : Q (.int (Int.gcd a b)) H := q
    have hu := hr.units
    refine ⟨_, (pss_cons (ps_set (i := 2) sc_divisor.nd rfl (Or.inl rfl) (pe_callB call_absF (by rfl) T.z_abs boot_abs (pa_cons (pvF 0) pa_nil)))
      (pss_cons (ps_set (i := 3) sc_divisor.nd rfl (Or.inl rfl) (pe_callB call_absF (by rfl) T.z_abs boot_abs (pa_cons (pvF 1) pa_nil)))
      (pss_cons (ps_whileW PassesOwn.never (pt_cmpF (op_neM hu) (pvF 3) pe_int (nomark _))
      (pss_cons (ps_set (i := 4) sc_divisor.nd rfl (Or.inl rfl) (pe_op of_mod (pvF 2) (pvF 3)))
      (pss_cons (ps_set (i := 2) sc_divisor.nd rfl (Or.inl rfl) (pvF 3))
      (pss_one (ps_set (i := 3) sc_divisor.nd rfl (Or.inl rfl) (pvF 4))))))
      (pss_one (ps_ret (pvF 2)))))), ?_⟩
    walk_at "rd"
    refine whileW_by (fun m σ H1 => ∃ l r z, σ = [some (.int a), some (.int b), some (.int l), some (.int r), z] ∧ H1 = H ∧ 0 ≤ l ∧ 0 ≤ r ∧ m = r.toNat ∧ Int.gcd l r = Int.gcd a b) _
      ⟨_, _, _, rfl, rfl, by omega, by omega, rfl, gcd_abs a b⟩ ?_
    rintro m σ H1 ⟨l, r, z, rfl, rfl, hl, hr', rfl, hg⟩
    walk_at "rd"
    split
    · rename_i h
      have hp : 0 < r := by omega
      have f := fmod_lt hl hp
      exact ⟨h, _, (by omega : (l.fmod r).toNat < r.toNat), _, _, _, ⟨rfl, rfl, rfl⟩, hr', f.1, rfl, (gcd_step hl hp).trans hg⟩
    · rename_i h
      obtain rfl : r = 0 := by omega
      rw [← hg, gcd_zero hl] at q
      exact q
theorem ok_multiple (T : Tx K mg A) : FnOk P A.wd K mg base CX0 2 A.f_multiple A.fd_multiple ["one", "other"] spMul := by
  have G_divisor : FnOk P A.wd K mg base CX0 1 A.f_divisor A.fd_divisor ["one", "other"] spGcd := ok_divisor T
  refine T.F_multiple.ok sc_multiple (fun vs H Q E h => ?_) (fun cdv A' outer s H vs Q E hr h => ?_)
  · match vs, h with
    | [.int a, .int b], _ => rfl
  · match vs, h with
    | [.int a, .int b], ⟨ha, hb, q⟩ =>
    have hu := hr.units
    have hr_divisor : Room 1 _ := hr.mono (by decide)
    refine ⟨_, (pss_cons (ps_if (pw_or (pt_cmpF (op_eqM hu) (pvF 0) pe_int (nomark _)) (pw_or1 (pt_cmpF (op_eqM hu) (pvF 1) pe_int (nomark _)))).pt
      (pss_one (ps_ret pe_int))
      pss_nil)
      (pss_one (ps_ret (pe_op op_mulM (pe_op of_fdiv (pe_callB call_absF (by rfl) T.z_abs boot_abs (pa_cons (pvF 0) pa_nil)) (pe_call G_divisor hr_divisor (by rfl) T.m_divisor T.F_divisor.kp T.b_divisor .nil pass0 (pa_cons (pvF 0) (pa_cons (pvF 1) pa_nil)))) (pe_callB call_absF (by rfl) T.z_abs boot_abs (pa_cons (pvF 1) pa_nil)))))), ?_⟩
    walk_at "rd"
    split
    · rename_i h
      rw [lcm_zero h] at q
      exact q
    · rename_i h
      simp only [not_or] at h
      have hg := bits_gcd (b := b) h.1 ha
      have hn : (Int.gcd a b : Int) ≠ 0 := by
        have := Int.gcd_pos_of_ne_zero_left b h.1
        omega
      refine ⟨⟨hn, Nat.le_trans hg (by decide)⟩, ?_, ?_⟩
      · exact IntMulOk.of_le (intBits_fdiv_le (intBits_natAbs_le ha)) (intBits_natAbs_le hb) (by decide)
      · rw [lcm_eq]
        exact q

theorem bits_num {t b : Int} {n : Nat} (hb : b ≠ 0) (h : intBits t ≤ n) : intBits (Rat.divInt t b).num ≤ n := intBits_le_of_natAbs (num_le hb) h
theorem bits_den {t b : Int} {n : Nat} (hb : b ≠ 0) (h : intBits b ≤ n) : intBits ((Rat.divInt t b).den : Int) ≤ n := by
  refine intBits_le_of_natAbs ?_ h
  rw [Int.natAbs_natCast]
  exact den_le hb
theorem ok_is_whole (T : Tx K mg A) : FnOk P A.wd K mg base CX0 1 A.f_is_whole A.fd_is_whole ["value"] spIsW := by
  refine T.F_is_whole.ok sc_is_whole (fun vs H Q E h => ?_) (fun cdv A' outer s H vs Q E hr h => ?_)
  · match vs, h with
    | [.int i], _ => rfl
  · match vs, h with
    | [.int i], q =>
    have hu := hr.units
    refine ⟨_, (pss_one (ps_ret (pe_andF (pe_callB (call_isT .int) (by rfl) T.z_isinstance boot_isinstance (pa_cons (pvF 0) (pa_cons (pe_bltn (v := .ty "int") (u := .type "int") (by rfl) T.z_int rfl rfl) pa_nil))) (pe_one (pe_notF (pe_callB (call_isT .bl) (by rfl) T.z_isinstance boot_isinstance (pa_cons (pvF 0) (pa_cons (pe_bltn (v := .ty "bool") (u := .type "bool") (by rfl) T.z_bool rfl rfl) pa_nil)))))))), ?_⟩
    walk_at "rd"
    exact q
theorem ok_fraction (T : Tx K mg A) : FnOk P A.wd K mg base CX0 2 A.f_fraction A.fd_fraction ["top", "bottom"] spFrac := by
  have G_is_whole : FnOk P A.wd K mg base CX0 1 _ _ _ _ := ok_is_whole T
  have G_divisor : FnOk P A.wd K mg base CX0 1 _ _ _ _ := ok_divisor T
  refine T.F_fraction.ok sc_fraction (fun vs H Q E h => ?_) (fun cdv A' outer s H vs Q E hr h => ?_)
  · match vs, h with
    | [.int t, .int b], _ => rfl
  · match vs, h with
    | [.int t, .int b], ⟨hb, h1, h2, k⟩ =>
    have hu := hr.units
    have hr_is_whole : Room 1 _ := hr.mono (by decide)
    have hr_divisor : Room 1 _ := hr.mono (by decide)
    refine ⟨_, (pss_cons (ps_if (pw_or (pt_not (pt_valF (pe_call G_is_whole hr_is_whole (by rfl) T.m_is_whole T.F_is_whole.kp T.b_is_whole .nil pass0 (pa_cons (pvF 0) pa_nil)))) (pw_or1 (pt_not (pt_valF (pe_call G_is_whole hr_is_whole (by rfl) T.m_is_whole T.F_is_whole.kp T.b_is_whole .nil pass0 (pa_cons (pvF 1) pa_nil)))))).pt
      (pss_one ps_never)
      pss_nil)
      (pss_cons (ps_if (pt_cmpF (op_eqM hu) (pvF 1) pe_int (nomark _))
      (pss_one ps_never)
      pss_nil)
      (pss_cons (ps_set (i := 2) sc_fraction.nd rfl (Or.inl rfl) (pe_call G_divisor hr_divisor (by rfl) T.m_divisor T.F_divisor.kp T.b_divisor .nil pass0 (pa_cons (pvF 0) (pa_cons (pvF 1) pa_nil))))
      (pss_cut (ps_if (pt_cmpF of_lt (pvF 1) pe_int (nomark _))
      (pss_one (ps_set (i := 2) sc_fraction.nd rfl (Or.inl rfl) (pe_un of_neg (pvF 2))))
      pss_nil)
      (pss_one (ps_ret (pe_tupS (pa_cons (pe_op of_fdiv (pvF 0) (pvF 2)) (pa_cons (pe_op of_fdiv (pvF 1) (pvF 2)) pa_nil))))))))), ?_⟩
    walk_at "rd"
    rw [if_neg hb]
    refine ⟨fun σ' H' => σ' = [some (.int t), some (.int b), some (.int (if b < 0 then -(Int.gcd t b : Int) else (Int.gcd t b : Int)))] ∧ H' = H, ?_, ?_⟩
    · walk_at "rd"
      split
      · rfl
      · rfl
    · rintro σ' H' ⟨rfl, rfl⟩
      have hg : intBits (Int.gcd t b : Int) ≤ 4000 := by
        rw [Int.gcd_comm]
        exact bits_gcd hb h2
      have hp : 0 < Int.gcd t b := Int.gcd_pos_of_ne_zero_right t hb
      have hc : CFd t (if b < 0 then -(Int.gcd t b : Int) else (Int.gcd t b : Int)) := by
        split
        · exact ⟨by omega, Nat.le_trans (intBits_neg_le hg) (by decide)⟩
        · exact ⟨by omega, Nat.le_trans hg (by decide)⟩
      walk_at "rd"
      refine ⟨hc, hc, fun p H1 n1 S1 h1 => k _ _ ⟨p, rfl, n1, S1, ?_⟩⟩
      rw [h1, num_of hb, den_of hb]
      rfl

theorem small_log {n : Nat} (h : n < 10 ^ 9) : n.log2 < 1920 := by
  rcases Nat.eq_zero_or_pos n with z | z
  · rw [z]; decide
  · rw [Nat.log2_lt (by omega)]
    exact Nat.lt_of_lt_of_le h (Nat.le_trans (by decide : 10 ^ 9 ≤ 2 ^ 30) (Nat.pow_le_pow_right (by decide) (by decide)))
theorem small_bits {t : Int} (h : t.natAbs < 10 ^ 9) : intBits t ≤ 4000 := by
  refine Nat.le_trans (intBits_le_iff.mpr (Nat.lt_of_lt_of_le h (by decide : 10 ^ 9 ≤ 2 ^ 30))) (by decide)
theorem ok_figures (T : Tx K mg A) : FnOk P A.wd K mg base CX0 1 A.f_is_figures A.fd_is_figures ["text"] spFig := by
  refine T.F_is_figures.ok sc_is_figures (fun vs H Q E h => ?_) (fun cdv A' outer s H vs Q E hr h => ?_)
  · match vs, h with
    | [.str x], _ => rfl
  · match vs, h with
    | [.str x], q =>
    have q : Q (.bl (figs (sg x))) H := q
    have hu := hr.units
    refine ⟨_, (pss_cons (ps_forW PassesOwn.never rfl (pi_str (pvF 0)) (pg_name (i := 1) sc_is_figures.nd rfl (Or.inl rfl))
      (pss_one (ps_if (pt_cmpF op_notInM (pvF 1) (pe_glob (v := .str "0123456789") (by rfl) T.mk_FIGURES T.rk_FIGURES) (by rfl))
      (pss_one (ps_ret pe_bl))
      pss_nil)))
      (pss_one (ps_ret (pe_cmpR (op_neM hu) (pvF 0) pe_str (nomark _))))), ?_⟩
    walk_at "rd"
    refine forW_str (fun i σ H1 => H1 = H ∧ (∃ z, σ = [some (.str x), z]) ∧ ((sg x).take i).all (fun c => decide (48 ≤ c) && decide (c ≤ 57)) = true) ⟨rfl, ⟨_, rfl⟩, rfl⟩ ?_ ?_
    · rintro i c σ H1 hc ⟨rfl, ⟨z, rfl⟩, ha⟩
      walk_at "rd"
      have hc' : (sg x)[i]? = some c := by
        unfold sg
        rw [Array.getElem?_toList]
        exact hc
      rw [has_fig]
      split
      · rename_i hb
        have : figs (sg x) = false := by
          unfold figs
          rw [show (sg x).all (fun c => decide (48 ≤ c) && decide (c ≤ 57)) = false from ?_, Bool.false_and]
          rw [List.all_eq_false]
          exact ⟨c, List.mem_of_getElem? hc', by rw [hb]; decide⟩
        rw [this] at q
        exact q
      · rename_i hb
        refine ⟨⟨_, rfl⟩, ?_⟩
        rw [List.take_add_one, hc', List.all_append, ha]
        simpa using hb
    · rintro σ H1 ⟨rfl, ⟨z, rfl⟩, ha⟩
      walk_at "rd"
      have hl : x.cps.size = (sg x).length := by simp
      rw [hl, List.take_length] at ha
      have e : figs (sg x) = !decide (x = Str.ofString "") := by
        unfold figs
        rw [ha, Bool.true_and]
        congr 1
        rw [Bool.eq_iff_iff, decide_eq_true_eq, List.isEmpty_iff]
        exact ⟨fun h => sg_inj (h.trans (by decide +kernel)), fun h => by rw [h]; decide +kernel⟩
      rw [e] at q
      exact q
theorem ok_ftext (T : Tx K mg A) : FnOk P A.wd K mg base CX0 1 A.f_fraction_text A.fd_fraction_text ["one"] spFText := by
  refine T.F_fraction_text.ok sc_fraction_text (fun vs H Q E h => ?_) (fun cdv A' outer s H vs Q E hr h => ?_)
  · match vs, h with
    | [.ref p], _ => rfl
  · match vs, h with
    | [.ref p], ⟨t, b, hp, l1, l2, q⟩ =>
    have hu := hr.units
    refine ⟨_, (pss_cons (ps_set (i := 1) sc_fraction_text.nd rfl (Or.inl rfl) (pe_ix ix_M (pvF 0) pe_int (fun _ _ => rfl)))
      (pss_cons (ps_set (i := 2) sc_fraction_text.nd rfl (Or.inl rfl) (pe_ix ix_M (pvF 0) pe_int (fun _ _ => rfl)))
      (pss_one (ps_ret (pe_joined (pj_cons (pe_fmt (pvF 1)) (pj_cons pe_str (pj_cons (pe_fmt (pvF 2)) pj_nil)))))))), ?_⟩
    walk_at "rd*"
    have e0 : Str.empty.length = 0 := rfl
    have e1 : (Str.ofString "/").length = 1 := by decide +kernel
    have e2 : (Str.ofString (toString t)).length = (txt t).length := by rw [← sg_len, sg_int]
    have e3 : (Str.ofString (toString b)).length = (txt b).length := by rw [← sg_len, sg_int]
    have f2 := txt_len t
    have f3 := txt_len b
    have hs : sizeLine = 16777216 := sizeLine_eq
    simp only [strLen_append, e0, e1, e2, e3]
    refine ⟨by omega, by omega, by omega, by omega, q _ ?_⟩
    rw [sg_append, sg_append, sg_append, sg_int, sg_int]
    unfold ftxt
    have e4 : sg Str.empty = [] := rfl
    have e5 : sg (Str.ofString "/") = [47] := by decide +kernel
    rw [e4, e5]
    simp

theorem ok_read (T : Tx K mg A) : FnOk P A.wd K mg base CX0 3 A.f_read_fraction A.fd_read_fraction ["text"] spRead := by
  have G_is_figures : FnOk P A.wd K mg base CX0 1 _ _ _ _ := ok_figures T
  have G_fraction_text : FnOk P A.wd K mg base CX0 1 _ _ _ _ := ok_ftext T
  have G_fraction : FnOk P A.wd K mg base CX0 2 _ _ _ _ := ok_fraction T
  refine T.F_read_fraction.ok sc_read_fraction (fun vs H Q E h => ?_) (fun cdv A' outer s H vs Q E hr h => ?_)
  · match vs, h with
    | [.str x], _ => rfl
  · match vs, h with
    | [.str x], ⟨t, b, g, k⟩ =>
    have hu := hr.units
    have hr_is_figures : Room 1 _ := hr.mono (by decide)
    have hr_fraction_text : Room 1 _ := hr.mono (by decide)
    have hr_fraction : Room 2 _ := hr.mono (by decide)
    obtain ⟨hx, hb, hg, l1, l2⟩ := g
    have hb0 : b ≠ 0 := by omega
    have tb : txt b = dg b.natAbs := if_neg (by omega)
    have sl : Str.ofString "/" = ⟨#[47]⟩ := by decide +kernel
    have mi : Str.ofString "-" = ⟨#[45]⟩ := by decide +kernel
    have sp := split_at (x := x) (c := 47) (by decide) hx (txt_no (by decide) (by decide)) (txt_no (by decide) (by decide))
    have hs : sizeLine = 16777216 := sizeLine_eq
    have q1 := txt_le t
    have xl : x.length = (txt t).length + ((txt b).length + 1) := by rw [← sg_len, hx]; simp [ftxt]
    rw [tb] at xl
    obtain ⟨h0, e0⟩ : ∃ h0 : Str, h0 = ⟨(txt t).toArray⟩ := ⟨_, rfl⟩
    obtain ⟨h1, e1⟩ : ∃ h1 : Str, h1 = ⟨(txt b).toArray⟩ := ⟨_, rfl⟩
    have s0 : sg h0 = txt t := by rw [e0]
    have s1 : sg h1 = txt b := by rw [e1]
    have n0 : h0.length = (txt t).length := by rw [← sg_len, s0]
    have n1 : h1.length = (txt b).length := by rw [← sg_len, s1]
    rw [← e0, ← e1] at sp
    have sw := sw_txt s0
    have i0 := int_of_txt s0 (by omega)
    have i1 := int_of_txt s1 (by rw [tb] at n1; omega)
    have r0 : Rat.divInt t b = ⟨t, b.toNat, by omega, by
      show Nat.gcd t.natAbs b.toNat = 1
      rw [← hg]
      unfold Int.gcd
      congr 1
      omega⟩ := by
      rw [Rat.mk_eq_divInt]
      congr 1
      omega
    refine ⟨_, (pss_cons (ps_if (pt_not (pt_valF (pe_callB (call_isT .str) (by rfl) T.z_isinstance boot_isinstance (pa_cons (pvF 0) (pa_cons (pe_bltn (v := .ty "str") (u := .type "str") (by rfl) T.z_str rfl rfl) pa_nil)))))
      (pss_one ps_never)
      pss_nil)
      (pss_cons (ps_set (i := 1) sc_read_fraction.nd rfl (Or.inl rfl) (pe_bmF isStrV_ty PySem.F.plainAttrs_str PySem.F.slot_str_split PySem.F.type_str_split mt_split (pvF 0) (pa_cons pe_str pa_nil)))
      (pss_cons (ps_if (pt_cmpF (op_neM hu) (pe_callB call_lenM (by rfl) T.z_len boot_len (pa_cons (pvF 1) pa_nil)) pe_int (nomark _))
      (pss_one ps_never)
      pss_nil)
      (pss_cut (ps_set (i := 2) sc_read_fraction.nd rfl (Or.inl rfl) (pe_ifExp (pt_valF (pe_bmF isStrV_ty PySem.F.plainAttrs_str PySem.F.slot_str_startswith PySem.F.type_str_startswith mt_startswith (pe_ix ix_M (pvF 1) pe_int (fun _ _ => rfl)) (pa_cons pe_str pa_nil))) (pe_slice sl_A (pe_ix ix_M (pvF 1) pe_int (fun _ _ => rfl)) (po_someF pe_int) po_none) (pe_ix ix_M (pvF 1) pe_int (fun _ _ => rfl))))
      (pss_cons (ps_forW PassesOwn.never rfl (pi_listF (pe_lstS (pa_cons (pvF 2) (pa_cons (pe_ix ix_M (pvF 1) pe_int (fun _ _ => rfl)) pa_nil)))) (pg_name (i := 3) sc_read_fraction.nd rfl (Or.inl rfl))
      (pss_one (ps_if (pw_or (pt_not (pt_valF (pe_call G_is_figures hr_is_figures (by rfl) T.m_is_figures T.F_is_figures.kp T.b_is_figures .nil pass0 (pa_cons (pvF 3) pa_nil)))) (pw_or1 (pt_cmpF of_gt (pe_callB call_lenM (by rfl) T.z_len boot_len (pa_cons (pvF 3) pa_nil)) (pe_glob (v := .int 9) (by rfl) T.mk_MOST_FIGURES_ratios T.rk_MOST_FIGURES_ratios) (nomark _)))).pt
      (pss_one ps_never)
      pss_nil)))
      (pss_cons (ps_if (pt_cmpF (op_eqM hu) (pe_callTy call_intF (by rfl) T.z_int boot_int (pa_cons (pe_ix ix_M (pvF 1) pe_int (fun _ _ => rfl)) pa_nil)) pe_int (nomark _))
      (pss_one ps_never)
      pss_nil)
      (pss_cons (ps_set (i := 4) sc_read_fraction.nd rfl (Or.inl rfl) (pe_call G_fraction hr_fraction (by rfl) T.m_fraction T.F_fraction.kp T.b_fraction .nil pass0 (pa_cons (pe_callTy call_intF (by rfl) T.z_int boot_int (pa_cons (pe_ix ix_M (pvF 1) pe_int (fun _ _ => rfl)) pa_nil)) (pa_cons (pe_callTy call_intF (by rfl) T.z_int boot_int (pa_cons (pe_ix ix_M (pvF 1) pe_int (fun _ _ => rfl)) pa_nil)) pa_nil))))
      (pss_cons (ps_if (pt_cmpF (op_neM hu) (pe_call G_fraction_text hr_fraction_text (by rfl) T.m_fraction_text T.F_fraction_text.kp T.b_fraction_text .nil pass0 (pa_cons (pvF 4) pa_nil)) (pvF 0) (nomark _))
      (pss_one ps_never)
      pss_nil)
      (pss_one (ps_ret (pvF 4))))))))))), ?_⟩
    rw [sl, mi]
    have hx' : id (sg x = ftxt t b) := hx
    clear e0 e1 hx sl mi
    have d1 : ((⟨#[47]⟩ : Str).length == 0) = false := rfl
    have d2 : x.length ≤ sizeLine := by omega
    have d3 : 2 ≤ sizeLine := by omega
    have d4 : h0.length ≤ sizeLine := by omega
    have d5 : h1.length ≤ sizeLine := by rw [tb] at n1; omega
    have N0 : h0.length ≤ 10 := by omega
    have N1 : h1.length ≤ 9 := by rw [tb] at n1; omega
    clear xl n0 n1 q1 hs
    walk_at "rd*"
    intro p H1 n1' S1 h1'
    walk_at "rd*"
    rw [if_neg (by decide)]
    refine ⟨fun σ' H' => ∃ top : Str, sg top = dg t.natAbs ∧ σ' = [some (.str x), some (.ref p), some (.str top), none, none] ∧ H' = H1, ?_, ?_⟩
    · walk_at "rd*"
      split
      · rename_i ht
        have z := sg_from (x := h0) (i := 1) (by
          rw [← sg_len, s0]
          unfold txt
          rw [if_pos ht]
          simp)
        rw [show ((1 : Nat) : Int) = 1 from rfl] at z
        refine ⟨_, ?_, rfl⟩
        rw [z, s0]
        unfold txt
        rw [if_pos ht]
        rfl
      · rename_i ht
        refine ⟨_, ?_, rfl⟩
        rw [s0]
        unfold txt
        rw [if_neg ht]
    · rintro σ' H' ⟨top, st, rfl, rfl⟩
      walk_at "rd*"
      intro q H2 n2 S2 h2
      walk_at "rd*"
      have hp2 := S2 _ _ h1'
      refine ⟨⟨_, SqL.of h2⟩, ?_⟩
      have f0 : figs (sg top) = true := by rw [st]; exact figs_iff.mpr ⟨dg_all _, dg_ne _⟩
      have f1 : figs (sg h1) = true := by rw [s1, tb]; exact figs_iff.mpr ⟨dg_all _, dg_ne _⟩
      have m0 : top.length ≤ 9 := by rw [← sg_len, st]; exact l1
      have m1 : top.length ≤ sizeLine := Nat.le_trans m0 (by decide)
      refine forW_list (xs := [.str top, .str h1]) (fun i σ H' => H' = H2 ∧ ∃ z, σ = [some (.str x), some (.ref p), some (.str top), z, none]) ⟨rfl, _, rfl⟩ (fun i σ H' _ h => by rw [h.1]; exact SqL.of h2) ?_ ?_
      · rintro i v σ H' hv ⟨rfl, z, rfl⟩
        match i, hv with
        | 0, hv =>
          cases hv
          walk_at "rd*"
          rw [st] at f0
          rw [f0, if_neg (by simp; omega)]
          exact ⟨_, rfl⟩
        | 1, hv =>
          cases hv
          walk_at "rd*"
          rw [s1, tb] at f1
          rw [f1, if_neg (by simp; omega)]
          exact ⟨_, rfl⟩
        | i + 2, hv => cases hv
      · rintro σ H' ⟨rfl, z, rfl⟩
        walk_at "rd*"
        have v1 : t.natAbs < 10 ^ 9 := by
          have := val_lt (dg_all t.natAbs)
          rw [dg_val] at this
          exact Nat.lt_of_lt_of_le this (Nat.pow_le_pow_right (by decide) l1)
        have v2 : b.natAbs < 10 ^ 9 := by
          have := val_lt (dg_all b.natAbs)
          rw [dg_val] at this
          exact Nat.lt_of_lt_of_le this (Nat.pow_le_pow_right (by decide) l2)
        have g1 : t.natAbs.log2 < 1920 := small_log v1
        have g2 : b.natAbs.log2 < 1920 := small_log v2
        refine ⟨by omega, by omega, by omega, small_bits v1, small_bits v2, ?_⟩
        rw [r0]
        rintro _ H3 ⟨o, rfl, n3, S3, h3⟩
        replace h3 : H3 o = some (.tup [.int t, .int b]) := by
          rw [h3]
          unfold ratV
          show some (HO.tup [V.int t, V.int ((b.toNat : Nat) : Int)]) = _
          rw [Int.toNat_of_nonneg (by omega)]
        walk_at "rd*"
        refine ⟨t, b, ⟨rfl, rfl⟩, g1, g2, fun y hy => ?_⟩
        rw [if_neg (not_not_intro (sg_inj (hy.trans hx'.symm)))]
        refine k _ _ ⟨o, rfl, ?_, fun c u e => S3 _ _ (S2 _ _ (S1 _ _ e)), h3⟩
        cases e : H o with
        | none => rfl
        | some u =>
          have := S2 _ _ (S1 _ _ e)
          rw [n3] at this
          cases this

theorem sw_nought {x : Str} {n : Nat} (h : sg x = txt (n : Int)) : (Txt.startswith x ⟨#[48]⟩ && !decide (x = (⟨#[48]⟩ : Str))) = false := by
  have e : txt (n : Int) = dg n := if_neg (by omega)
  rw [e] at h
  rcases Nat.eq_zero_or_pos n with z | z
  · subst z
    have : x = ⟨#[48]⟩ := sg_inj (by rw [h]; rfl)
    rw [this]
    simp
  · obtain ⟨c, r, e1, e2⟩ := dg_head z
    rw [sw_one, h, e1]
    simp [e2]
theorem ok_who (T : Tx K mg A) : FnOk P A.wd K mg base CX0 2 A.f_whole_of A.fd_whole_of ["text"] spWho := by
  have G_is_figures : FnOk P A.wd K mg base CX0 1 _ _ _ _ := ok_figures T
  refine T.F_whole_of.ok sc_whole_of (fun vs H Q E h => ?_) (fun cdv A' outer s H vs Q E hr h => ?_)
  · match vs, h with
    | [.str x], _ => rfl
  · match vs, h with
    | [.str x], ⟨n, hx, hn, q⟩ =>
    have hu := hr.units
    have hr_is_figures : Room 1 _ := hr.mono (by decide)
    have sl : Str.ofString "0" = ⟨#[48]⟩ := by decide +kernel
    refine ⟨_, (pss_cons (ps_if (pw_or (pt_not (pt_valF (pe_call G_is_figures hr_is_figures (by rfl) T.m_is_figures T.F_is_figures.kp T.b_is_figures .nil pass0 (pa_cons (pvF 0) pa_nil)))) (pw_or1 (pt_cmpF of_gt (pe_callB call_lenM (by rfl) T.z_len boot_len (pa_cons (pvF 0) pa_nil)) (pe_glob (v := .int 13) (by rfl) T.mk_MOST_FIGURES_wholes T.rk_MOST_FIGURES_wholes) (nomark _)))).pt
      (pss_one (ps_ret pe_non))
      pss_nil)
      (pss_cons (ps_if (pw_and (pt_valF (pe_bmF isStrV_ty PySem.F.plainAttrs_str PySem.F.slot_str_startswith PySem.F.type_str_startswith mt_startswith (pvF 0) (pa_cons pe_str pa_nil))) (pw_and1 (pt_cmpF (op_neM hu) (pvF 0) pe_str (nomark _)))).pt
      (pss_one (ps_ret pe_non))
      pss_nil)
      (pss_one (ps_ret (pe_callTy call_intF (by rfl) T.z_int boot_int (pa_cons (pvF 0) pa_nil)))))), ?_⟩
    rw [sl]
    walk_at "rd*"
    have e : txt (n : Int) = dg n := if_neg (by omega)
    have f : figs (txt (n : Int)) = true := by rw [e]; exact figs_iff.mpr ⟨dg_all _, dg_ne _⟩
    have lx : x.length ≤ 11 := by
      rw [← sg_len, hx, e]
      have a := dg_le 8 n (by omega)
      omega
    have sw := sw_nought hx
    have hs : sizeLine = 16777216 := sizeLine_eq
    rw [f, if_neg (by decide)]
    refine ⟨by omega, ?_⟩
    rw [if_neg ?_]
    · exact ⟨_, int_of_txt hx (by omega), by omega, q⟩
    · rintro (z | ⟨z1, z2⟩)
      · omega
      · rw [z1, Bool.true_and] at sw
        simp [z2] at sw

theorem den_ne (x : Rat) : (x.den : Int) ≠ 0 := by
  have := x.den_pos
  omega
theorem den2_ne (x y : Rat) : (x.den : Int) * (y.den : Int) ≠ 0 := Int.mul_ne_zero (den_ne x) (den_ne y)
theorem ok_plus (T : Tx K mg A) : FnOk P A.wd K mg base CX0 3 A.f_plus A.fd_plus ["one", "other"] spPlus := by
  have G_fraction : FnOk P A.wd K mg base CX0 2 _ _ _ _ := ok_fraction T
  refine T.F_plus.ok sc_plus (fun vs H Q E h => ?_) (fun cdv A' outer s H vs Q E hr h => ?_)
  · match vs, h with
    | [.ref p, .ref q], _ => rfl
  · match vs, h with
    | [.ref p, .ref q], ⟨x, y, ⟨hp, hq, b1, b2, b3, b4⟩, k⟩ =>
    have hu := hr.units
    have hr_fraction : Room 2 _ := hr.mono (by decide)
    unfold ratV at hp hq
    refine ⟨_, (pss_one (ps_ret (pe_call G_fraction hr_fraction (by rfl) T.m_fraction T.F_fraction.kp T.b_fraction .nil pass0 (pa_cons (pe_op op_addM (pe_op op_mulM (pe_ix ix_M (pvF 0) pe_int (fun _ _ => rfl)) (pe_ix ix_M (pvF 1) pe_int (fun _ _ => rfl))) (pe_op op_mulM (pe_ix ix_M (pvF 1) pe_int (fun _ _ => rfl)) (pe_ix ix_M (pvF 0) pe_int (fun _ _ => rfl)))) (pa_cons (pe_op op_mulM (pe_ix ix_M (pvF 0) pe_int (fun _ _ => rfl)) (pe_ix ix_M (pvF 1) pe_int (fun _ _ => rfl))) pa_nil))))), ?_⟩
    walk_at "rd*"
    refine ⟨by walk_at "mul", by walk_at "mul", by walk_at "mul", den2_ne x y, by walk_at "le", by walk_at "le", ?_⟩
    rw [plus_rat]
    exact k
theorem ok_mulr (T : Tx K mg A) : FnOk P A.wd K mg base CX0 3 A.f_times A.fd_times ["one", "other"] spMulR := by
  have G_fraction : FnOk P A.wd K mg base CX0 2 _ _ _ _ := ok_fraction T
  refine T.F_times.ok sc_times (fun vs H Q E h => ?_) (fun cdv A' outer s H vs Q E hr h => ?_)
  · match vs, h with
    | [.ref p, .ref q], _ => rfl
  · match vs, h with
    | [.ref p, .ref q], ⟨x, y, ⟨hp, hq, b1, b2, b3, b4⟩, k⟩ =>
    have hu := hr.units
    have hr_fraction : Room 2 _ := hr.mono (by decide)
    unfold ratV at hp hq
    refine ⟨_, (pss_one (ps_ret (pe_call G_fraction hr_fraction (by rfl) T.m_fraction T.F_fraction.kp T.b_fraction .nil pass0 (pa_cons (pe_op op_mulM (pe_ix ix_M (pvF 0) pe_int (fun _ _ => rfl)) (pe_ix ix_M (pvF 1) pe_int (fun _ _ => rfl))) (pa_cons (pe_op op_mulM (pe_ix ix_M (pvF 0) pe_int (fun _ _ => rfl)) (pe_ix ix_M (pvF 1) pe_int (fun _ _ => rfl))) pa_nil))))), ?_⟩
    walk_at "rd*"
    refine ⟨by walk_at "mul", by walk_at "mul", den2_ne x y, by walk_at "le", by walk_at "le", ?_⟩
    rw [times_rat]
    exact k

theorem ok_size (T : Tx K mg A) : FnOk P A.wd K mg base CX0 1 A.f_size_of A.fd_size_of ["one"] spSize := by
  refine T.F_size_of.ok sc_size_of (fun vs H Q E h => ?_) (fun cdv A' outer s H vs Q E hr h => ?_)
  · match vs, h with
    | [.ref p], _ => rfl
  · match vs, h with
    | [.ref p], ⟨x, hp, k⟩ =>
    have hu := hr.units
    unfold ratV at hp
    refine ⟨_, (pss_one (ps_ret (pe_tupS (pa_cons (pe_callB call_absF (by rfl) T.z_abs boot_abs (pa_cons (pe_ix ix_M (pvF 0) pe_int (fun _ _ => rfl)) pa_nil)) (pa_cons (pe_ix ix_M (pvF 0) pe_int (fun _ _ => rfl)) pa_nil))))), ?_⟩
    walk_at "rd*"
    intro b H1 n1 S1 h1
    refine k _ _ ⟨b, rfl, n1, S1, ?_⟩
    rw [h1]
    unfold ratV
    rw [abs_num, abs_den]
theorem ok_under (T : Tx K mg A) : FnOk P A.wd K mg base CX0 1 A.f_is_under A.fd_is_under ["one", "other"] spUnder := by
  refine T.F_is_under.ok sc_is_under (fun vs H Q E h => ?_) (fun cdv A' outer s H vs Q E hr h => ?_)
  · match vs, h with
    | [.ref p, .ref q], _ => rfl
  · match vs, h with
    | [.ref p, .ref q], ⟨x, y, ⟨hp, hq, b1, b2, b3, b4⟩, k⟩ =>
    have hu := hr.units
    unfold ratV at hp hq
    refine ⟨_, (pss_one (ps_ret (pe_cmpR of_lt (pe_op op_mulM (pe_ix ix_M (pvF 0) pe_int (fun _ _ => rfl)) (pe_ix ix_M (pvF 1) pe_int (fun _ _ => rfl))) (pe_op op_mulM (pe_ix ix_M (pvF 1) pe_int (fun _ _ => rfl)) (pe_ix ix_M (pvF 0) pe_int (fun _ _ => rfl))) (nomark _)))), ?_⟩
    walk_at "rd*"
    exact ⟨by walk_at "mul", by walk_at "mul"⟩

theorem rat_of {p q : Int} (h : 1 ≤ q) (g : Int.gcd p q = 1) : ∃ y : Rat, y.num = p ∧ (y.den : Int) = q := by
  refine ⟨⟨p, q.toNat, by omega, ?_⟩, rfl, ?_⟩
  · show Nat.gcd p.natAbs q.toNat = 1
    rw [show q.toNat = q.natAbs by omega]
    exact g
  · show ((q.toNat : Nat) : Int) = q
    omega
theorem mulr_bits {x y : Rat} {a b c d : Nat} (h1 : intBits x.num ≤ a) (h2 : intBits (x.den : Int) ≤ b) (h3 : intBits y.num ≤ c) (h4 : intBits (y.den : Int) ≤ d) : intBits (x * y).num ≤ a + c ∧ intBits ((x * y).den : Int) ≤ b + d := by
  rw [← times_rat]
  have ne : (x.den : Int) * (y.den : Int) ≠ 0 := den2_ne x y
  exact ⟨bits_num ne (intBits_mul_le h1 h3), bits_den ne (intBits_mul_le h2 h4)⟩
theorem plusr_bits {x y : Rat} {a : Nat} (h1 : intBits x.num ≤ a) (h2 : intBits (x.den : Int) ≤ a) (h3 : intBits y.num ≤ a) (h4 : intBits (y.den : Int) ≤ a) : intBits (x + y).num ≤ a + a + 1 ∧ intBits ((x + y).den : Int) ≤ a + a := by
  rw [← plus_rat]
  have ne : (x.den : Int) * (y.den : Int) ≠ 0 := den2_ne x y
  refine ⟨bits_num ne ?_, bits_den ne (intBits_mul_le h2 h4)⟩
  have := intBits_add_le (intBits_mul_le h1 h4) (intBits_mul_le h3 h2)
  omega
theorem RtsN.rts {l : Addr} {H : Hp} {qs : List Addr} {ss : List Rat} (h : RtsN l H qs ss) : Rts H qs ss := ⟨h.1, fun i q s e1 e2 => (h.2 i q s e1 e2).2⟩
theorem Rts.same {H H' : Hp} {qs : List Addr} {ss : List Rat} (h : Rts H qs ss) (S : Same H H') : Rts H' qs ss := ⟨h.1, fun i q s e1 e2 => S _ _ (h.2 i q s e1 e2)⟩
theorem Rts.sameB {o : Addr} {H H' : Hp} {qs : List Addr} {ss : List Rat} {C dx : Addr} {fs : List (Str × V)} (h : Rts H qs ss) (ho : H o = some (.ins C dx fs)) (S : SameB o H H') : Rts H' qs ss :=
  ⟨h.1, fun i q s e1 e2 => S _ _ (fun z => by have := h.2 i q s e1 e2; rw [z, ho] at this; cases this) (h.2 i q s e1 e2)⟩
theorem RtsN.sameB {l : Addr} {H H' : Hp} {qs : List Addr} {ss : List Rat} (h : RtsN l H qs ss) (S : SameB l H H') : RtsN l H' qs ss := ⟨h.1, fun i q s e1 e2 => ⟨(h.2 i q s e1 e2).1, S _ _ (h.2 i q s e1 e2).1 (h.2 i q s e1 e2).2⟩⟩
theorem RtsN.same {l : Addr} {H H' : Hp} {qs : List Addr} {ss : List Rat} (h : RtsN l H qs ss) (S : Same H H') : RtsN l H' qs ss := h.sameB fun b o _ e => S b o e
theorem RtsN.nil {l : Addr} {H : Hp} : RtsN l H [] [] := ⟨rfl, fun i q s e => by simp at e⟩
theorem RtsN.snoc {l : Addr} {H : Hp} {qs : List Addr} {ss : List Rat} {q : Addr} {s : Rat} (h : RtsN l H qs ss) (hl : q ≠ l) (hq : H q = some (.tup (ratV s))) : RtsN l H (qs ++ [q]) (ss ++ [s]) := by
  refine ⟨by rw [List.length_append, List.length_append, h.1]; rfl, fun i q' s' e1 e2 => ?_⟩
  by_cases hi : i < qs.length
  · rw [List.getElem?_append_left hi] at e1
    rw [List.getElem?_append_left (by rw [← h.1]; exact hi)] at e2
    exact h.2 i q' s' e1 e2
  · rw [List.getElem?_append_right (by omega)] at e1
    rw [List.getElem?_append_right (by rw [← h.1]; omega)] at e2
    rw [← h.1] at e2
    cases hz : i - qs.length with
    | zero =>
      rw [hz] at e1 e2
      simp at e1 e2
      subst e1 e2
      exact ⟨hl, hq⟩
    | succ n =>
      rw [hz] at e1
      simp at e1
theorem Rts.get {H : Hp} {qs : List Addr} {ss : List Rat} (h : Rts H qs ss) {i : Nat} {v : V} (e : (qs.map V.ref)[i]? = some v) : ∃ q s, v = .ref q ∧ ss[i]? = some s ∧ H q = some (.tup (ratV s)) := by
  rw [List.getElem?_map] at e
  obtain ⟨q, hq, rfl⟩ := Option.map_eq_some_iff.mp e
  have hi : i < qs.length := (List.getElem?_eq_some_iff.mp hq).1
  have hr : ss[i]? = some (ss[i]'(by rw [← h.1]; exact hi)) := List.getElem?_eq_getElem _
  exact ⟨q, _, rfl, hr, h.2 i q _ hq hr⟩
theorem Crn.same {H H' : Hp} {ps : List Addr} {cs : List (Int × Rat)} (h : Crn H ps cs) (S : Same H H') : Crn H' ps cs := ⟨h.1, fun i p c e1 e2 => (h.2 i p c e1 e2).elim fun g z => ⟨g, S _ _ z.1, S _ _ z.2⟩⟩
theorem Crn.sameB {o : Addr} {H H' : Hp} {ps : List Addr} {cs : List (Int × Rat)} {C dx : Addr} {fs : List (Str × V)} (h : Crn H ps cs) (ho : H o = some (.ins C dx fs)) (S : SameB o H H') : Crn H' ps cs :=
  ⟨h.1, fun i p c e1 e2 => (h.2 i p c e1 e2).elim fun g z => ⟨g, S _ _ (fun e => by have := z.1; rw [e, ho] at this; cases this) z.1, S _ _ (fun e => by have := z.2; rw [e, ho] at this; cases this) z.2⟩⟩
theorem Crn.get {H : Hp} {ps : List Addr} {cs : List (Int × Rat)} (h : Crn H ps cs) {i : Nat} {v : V} (e : (ps.map V.ref)[i]? = some v) : ∃ p c g, v = .ref p ∧ cs[i]? = some c ∧ H p = some (.tup [.int c.1, .ref g]) ∧ H g = some (.tup (ratV c.2)) := by
  rw [List.getElem?_map] at e
  obtain ⟨p, hp, rfl⟩ := Option.map_eq_some_iff.mp e
  have hi : i < ps.length := (List.getElem?_eq_some_iff.mp hp).1
  have hr : cs[i]? = some (cs[i]'(by rw [← h.1]; exact hi)) := List.getElem?_eq_getElem _
  obtain ⟨g, h1, h2⟩ := h.2 i p _ hp hr
  exact ⟨p, _, g, rfl, hr, h1, h2⟩
theorem lcmL_snoc (bs : List Int) (b : Int) : lcmL (bs ++ [b]) = (Int.lcm (lcmL bs) b : Int) := by
  unfold lcmL
  rw [List.foldl_append]
  rfl
theorem snocI {α : Type} {p : List α → Prop} (h0 : p []) (hs : ∀ l x, p l → p (l ++ [x])) (l : List α) : p l := by
  have : ∀ l : List α, p l.reverse := fun l => by
    induction l with
    | nil => exact h0
    | cons x l ih => rw [List.reverse_cons]; exact hs _ _ ih
  have z := this l.reverse
  rwa [List.reverse_reverse] at z
theorem bits_lcm3 {a b : Int} {m n : Nat} (h : ¬ (a = 0 ∧ b = 0)) (ha : intBits a ≤ m) (hb : intBits b ≤ n) : intBits (Int.lcm a b : Int) ≤ m + n := by
  refine intBits_le_of_natAbs ?_ (intBits_mul_le ha hb)
  have hp : 0 < Int.gcd a b := by
    rw [Int.gcd_pos_iff]
    omega
  rw [Int.natAbs_natCast, Int.natAbs_mul, ← Int.gcd_mul_lcm]
  exact Nat.le_mul_of_pos_left _ hp
theorem lcmL_ok (bs : List Int) : (∀ b ∈ bs, 1 ≤ b ∧ intBits b ≤ 64) → 1 ≤ lcmL bs ∧ (∀ b ∈ bs, b ∣ lcmL bs) ∧ intBits (lcmL bs) ≤ 1 + 64 * bs.length := by
  induction bs using snocI with
  | h0 => exact fun _ => ⟨by decide, (fun b hb => by cases hb), by decide⟩
  | hs l x ih =>
    intro h
    have i := ih fun b hb => h b (List.mem_append_left _ hb)
    have hx := h x (List.mem_append_right _ (List.mem_singleton.mpr rfl))
    rw [lcmL_snoc, List.length_append, List.length_singleton]
    have lp : 0 < Int.lcm (lcmL l) x := Int.lcm_pos (by omega) (by omega)
    refine ⟨by omega, fun b hb => ?_, Nat.le_trans (bits_lcm3 (by omega) i.2.2 hx.2) (by omega)⟩
    rcases List.mem_append.mp hb with e | e
    · exact Int.dvd_trans (i.2.1 b e) (Int.dvd_lcm_left _ _)
    · rw [List.mem_singleton.mp e]
      exact Int.dvd_lcm_right _ _
theorem ok_shared (T : Tx K mg A) : FnOk P A.wd K mg base CX0 3 A.f_shared_bottom A.fd_shared_bottom ["bottoms"] spShared := by
  have G_multiple : FnOk P A.wd K mg base CX0 2 _ _ _ _ := ok_multiple T
  refine T.F_shared_bottom.ok sc_shared_bottom (fun vs H Q E h => ?_) (fun cdv A' outer s H vs Q E hr h => ?_)
  · match vs, h with
    | [.ref p], _ => rfl
  · match vs, h with
    | [.ref p], ⟨bs, hp, O, L, q⟩ =>
    have hu := hr.units
    have hr_multiple : Room 2 _ := hr.mono (by decide)
    refine ⟨_, (pss_cons (ps_set (i := 1) sc_shared_bottom.nd rfl (Or.inl rfl) pe_int)
      (pss_cons (ps_forW PassesOwn.never rfl (pi_listF (pvF 0)) (pg_name (i := 2) sc_shared_bottom.nd rfl (Or.inl rfl))
      (pss_one (ps_set (i := 1) sc_shared_bottom.nd rfl (Or.inl rfl) (pe_call G_multiple hr_multiple (by rfl) T.m_multiple T.F_multiple.kp T.b_multiple .nil pass0 (pa_cons (pvF 1) (pa_cons (pvF 2) pa_nil))))))
      (pss_one (ps_ret (pvF 1))))), ?_⟩
    walk_at "rd"
    refine ⟨⟨_, SqL.of hp⟩, ?_⟩
    obtain ⟨Pv, pin, pout⟩ := opaqN (fun i σ H' => ∃ (v2 : Option V), σ = [some (.ref p), some (.int (lcmL (bs.take i))), v2] ∧ H' = H)
    refine forW_list (xs := bs.map V.int) Pv (pin _ _ _ ⟨_, rfl, rfl⟩) ?_ ?_ ?_
    · intro i σ H2 hi hp'
      obtain ⟨v2, rfl, rfl⟩ := pout _ _ _ hp'
      exact SqL.of hp
    · intro i v σ H2 hv hp'
      obtain ⟨v2, rfl, rfl⟩ := pout _ _ _ hp'
      rw [List.getElem?_map] at hv
      obtain ⟨b, hb, rfl⟩ := Option.map_eq_some_iff.mp hv
      have Ob := O b (List.mem_of_getElem? hb)
      have lk := lcmL_ok (bs.take i) fun b hb => O b (List.mem_of_mem_take hb)
      have hl : (bs.take i).length ≤ 24 := by rw [List.length_take]; omega
      have et : bs.take (i + 1) = bs.take i ++ [b] := by rw [List.take_add_one, hb]; rfl
      walk_at "rd"
      refine ⟨by omega, by omega, pin _ _ _ ⟨some (.int b), ?_, rfl⟩⟩
      rw [et, lcmL_snoc]
    · intro σ H2 hp'
      obtain ⟨v2, rfl, rfl⟩ := pout _ _ _ hp'
      rw [List.length_map, List.take_of_length_le (Nat.le_refl _)]
      walk_at "rd"
      exact q
theorem ok_overr (T : Tx K mg A) : FnOk P A.wd K mg base CX0 1 A.f_over A.fd_over ["one", "bottom"] spOverR := by
  refine T.F_over.ok sc_over (fun vs H Q E h => ?_) (fun cdv A' outer s H vs Q E hr h => ?_)
  · match vs, h with
    | [.ref p, .int S], _ => rfl
  · match vs, h with
    | [.ref p, .int S], ⟨y, hp, b1, b2, b3, q⟩ =>
    have hu := hr.units
    unfold ratV at hp
    have dp := y.den_pos
    refine ⟨_, (pss_one (ps_ret (pe_op op_mulM (pe_ix ix_M (pvF 0) pe_int (fun _ _ => rfl)) (pe_op of_fdiv (pvF 1) (pe_ix ix_M (pvF 0) pe_int (fun _ _ => rfl)))))), ?_⟩
    walk_at "rd*"
    exact ⟨⟨by omega, by omega⟩, IntMulOk.of_le b1 (intBits_fdiv_le b3) (by decide)⟩

theorem rat_den (a : Rat) : a * ((a.den : Int) : Rat) = (a.num : Rat) := by
  have h : ((a.den : Int) : Rat) ≠ 0 := fun e => by
    have := Rat.intCast_inj.mp (e.trans (by rfl : (0 : Rat) = ((0 : Int) : Rat)))
    have := a.den_pos
    omega
  conv => lhs; lhs; rw [← Rat.num_divInt_den a]
  rw [Rat.divInt_eq_div, Rat.div_def, Rat.mul_assoc, Rat.inv_mul_cancel _ h, Rat.mul_one]
theorem iv_den {iv : Rat} {n : Int} (h1 : iv.num = 1) (h2 : (iv.den : Int) = n) (x : Rat) : x * iv * (n : Rat) = x := by
  rw [← h2, Rat.mul_assoc, rat_den, h1]
  exact Rat.mul_one x
theorem ok_slopes (T : Tx K mg A) : FnOk P A.wd K mg base CX0 4 A.f_slopes_of A.fd_slopes_of ["corners"] spSlopes := by
  have G_plus : FnOk P A.wd K mg base CX0 3 _ _ _ _ := ok_plus T
  have G_times : FnOk P A.wd K mg base CX0 3 _ _ _ _ := ok_mulr T
  refine T.F_slopes_of.ok sc_slopes_of (fun vs H Q E h => ?_) (fun cdv A' outer s H vs Q E hr h => ?_)
  · match vs, h with
    | [.ref ct], _ => rfl
  · match vs, h with
    | [.ref ct], ⟨ps, cs, hct, R, O, L1, L12, k⟩ =>
    have hu := hr.units
    have hr_plus : Room 3 _ := hr.mono (by decide)
    have hr_times : Room 3 _ := hr.mono (by decide)
    have pl := R.1
    refine ⟨_, (pss_cons (ps_set (i := 1) sc_slopes_of.nd rfl (Or.inl rfl) (pe_lstS pa_nil))
      (pss_cons (ps_forW PassesOwn.never rfl (pi_zip (by rfl) T.z_zip (pa_cons (pvF 0) (pa_cons (pe_slice sl_G (pvF 0) (po_someF pe_int) po_none) pa_nil))) (pg_tupF (n := 2) rfl (pgs_consF (pg_name (i := 2) sc_slopes_of.nd rfl (Or.inl rfl)) (pgs_consF (pg_name (i := 3) sc_slopes_of.nd rfl (Or.inl rfl)) pgs_nilF)))
      (pss_cons (ps_set (i := 4) sc_slopes_of.nd rfl (Or.inl rfl) (pe_call G_plus hr_plus (by rfl) T.m_plus T.F_plus.kp T.b_plus .nil pass0 (pa_cons (pe_ix ix_M (pvF 3) pe_int (fun _ _ => rfl)) (pa_cons (pe_call G_times hr_times (by rfl) T.m_times T.F_times.kp T.b_times .nil pass0 (pa_cons (pe_tupS (pa_cons (pe_un of_neg pe_int) (pa_cons pe_int pa_nil))) (pa_cons (pe_ix ix_M (pvF 2) pe_int (fun _ _ => rfl)) pa_nil))) pa_nil))))
      (pss_one (ps_expr (pe_bmF isLst_ty PySem.F.plainAttrs_list PySem.F.slot_list_append PySem.F.type_list_append mt_appendF (pvF 1) (pa_cons (pe_call G_times hr_times (by rfl) T.m_times T.F_times.kp T.b_times .nil pass0 (pa_cons (pvF 4) (pa_cons (pe_tupS (pa_cons pe_int (pa_cons (pe_op of_sub (pe_ix ix_M (pvF 3) pe_int (fun _ _ => rfl)) (pe_ix ix_M (pvF 2) pe_int (fun _ _ => rfl))) pa_nil))) pa_nil))) pa_nil))))))
      (pss_cons (ps_expr (pe_bmF isLst_ty PySem.F.plainAttrs_list PySem.F.slot_list_append PySem.F.type_list_append mt_appendF (pvF 1) (pa_cons (pe_tupS (pa_cons pe_int (pa_cons pe_int pa_nil))) pa_nil)))
      (pss_one (ps_ret (pvF 1)))))), ?_⟩
    walk_at "rd"
    refine ⟨Nat.zero_le _, fun l H1 n1 S1 h1 => ?_⟩
    have hct1 := S1 _ _ hct
    walk_at "rd*"
    refine ⟨fun z => ?_, fun c2 H2 n2 S2 h2 => ?_⟩
    · have := z.1
      rw [show (some (1 : Int)) = some ((1 : Nat) : Int) from rfl, HT.sIx_nat] at this
      omega
    have e2 : cutV (ps.map V.ref) (some 1) none = (ps.drop 1).map V.ref := by
      show cutG (ps.map V.ref) (some ((1 : Nat) : Int)) none = _
      rw [cutG_from, List.map_drop]
    rw [e2] at h2
    have hct2 := S2 _ _ hct1
    have h12 := S2 _ _ h1
    clear hct1 h1
    walk_at "rd*"
    obtain ⟨Pv, pin, pout⟩ := opaqN (fun i σ H' => ∃ (v2 v3 v4 : Option V) (qs : List Addr) (ss : List Rat), σ = [some (.ref ct), some (.ref l), v2, v3, v4] ∧ Same H H' ∧ H' c2 = some (.tup ((ps.drop 1).map V.ref)) ∧ H' l = some (.lst (qs.map V.ref)) ∧ RtsN l H' qs ss ∧ ss.length = i ∧ (∀ s ∈ ss, intBits s.num ≤ 60 ∧ intBits (s.den : Int) ≤ 60) ∧ ∀ j s, ss[j]? = some s → SlR cs j s)
    refine forW_zip (xs := ps.map V.ref) (ys := (ps.drop 1).map V.ref) Pv (pin _ _ _ ⟨_, _, _, [], [], rfl, S1.trans S2, h2, h12, .nil, rfl, (fun s hs => by cases hs), (fun j s e => by simp at e)⟩) ?_ ?_ ?_
    · intro i σ H3 hp
      obtain ⟨v2, v3, v4, qs, ss, rfl, S3, h3, hl3, R3, L3, B3, V3⟩ := pout _ _ _ hp
      exact ⟨SqT.of (S3 _ _ hct), SqT.of h3⟩
    · intro i x y σ H3 p H4 hx hy hp np S4 h4
      obtain ⟨v2, v3, v4, qs, ss, rfl, S3, h3, hl3, R3, L3, B3, V3⟩ := pout _ _ _ hp
      obtain ⟨pc, c, g, rfl, hc, hpc, hg⟩ := R.get hx
      have hy' : (ps.map V.ref)[i + 1]? = some y := by
        rw [List.map_drop, List.getElem?_drop] at hy
        rwa [Nat.add_comm] at hy
      obtain ⟨pd, d, gd, rfl, hd, hpd, hgd⟩ := R.get hy'
      have Oc := O.1 c (List.mem_of_getElem? hc)
      have Od := O.1 d (List.mem_of_getElem? hd)
      have lt := O.2 i c d hc hd
      have S04 := S3.trans S4
      have hpc4 := S04 _ _ hpc
      have hpd4 := S04 _ _ hpd
      clear hct2 h12 h2
      walk_at "rd*"
      refine fun m H5 n5 S5 h5 => ?_
      have S05 := S04.trans S5
      have hpc5 := S05 _ _ hpc
      clear hpc4
      walk_at "rd*"
      refine ⟨-1, c.2, ⟨h5, S05 _ _ hg, by decide, by decide, by omega, by omega⟩, ?_⟩
      rintro _ H6 ⟨t6, rfl, n6, S6, h6⟩
      have S06 := S05.trans S6
      have m1 := mulr_bits (x := -1) (y := c.2) (a := 1) (b := 1) (by decide) (by decide) Oc.2.2.1 Oc.2.2.2
      walk_at "rd"
      refine ⟨d.2, -1 * c.2, ⟨S06 _ _ hgd, h6, by omega, by omega, by omega, by omega⟩, ?_⟩
      rintro _ H7 ⟨t7, rfl, n7, S7, h7⟩
      have S07 := S06.trans S7
      have m2 := plusr_bits (x := d.2) (y := -1 * c.2) (a := 11) (by omega) (by omega) (by omega) (by omega)
      have hpc7 := S07 _ _ hpc
      have hpd7 := S07 _ _ hpd
      have hl7 := S7 _ _ (S6 _ _ (S5 _ _ (S4 _ _ hl3)))
      clear hpd4 hpc5 h5 h4
      walk_at "rd*"
      refine fun u H8 n8 S8 h8 => ?_
      obtain ⟨iv, in1, in2⟩ := rat_of (p := 1) (q := d.1 - c.1) (by omega) (by rw [Int.gcd_one_left])
      have h8' : H8 u = some (.tup (ratV iv)) := by rw [h8, ← in1, ← in2]; rfl
      have b1 : intBits iv.num ≤ 1 := by rw [in1]; decide
      have b2 : intBits (iv.den : Int) ≤ 20 := by rw [in2]; exact intBits_le_iff.mpr (Nat.lt_of_le_of_lt (by omega : (d.1 - c.1).natAbs ≤ 200000) (by decide))
      have m3 := mulr_bits (x := d.2 + -1 * c.2) (y := iv) m2.1 m2.2 b1 b2
      walk_at "rd"
      refine ⟨d.2 + -1 * c.2, iv, ⟨S8 _ _ h7, h8', by omega, by omega, by omega, by omega⟩, ?_⟩
      rintro _ H9 ⟨t9, rfl, n9, S9, h9⟩
      have S79 := S8.trans S9
      have hl9 := S79 _ _ hl7
      have tl : t9 ≠ l := fun e => by rw [e, S8 _ _ hl7] at n9; cases n9
      have ql := R3.1
      have hc2l : c2 ≠ l := fun e => by rw [e, hl3] at h3; cases h3
      clear hpc7 hpd7 h8
      walk_at "rd*"
      refine ⟨by rw [sizeLine_eq]; have := (List.getElem?_eq_some_iff.mp hc).1; omega, ?_⟩
      rintro _ H10 ⟨rfl, B10, h10⟩
      have S39 : Same H3 H9 := S4.trans (S5.trans (S6.trans (S7.trans S79)))
      refine pin _ _ _ ⟨_, _, _, qs ++ [t9], ss ++ [(d.2 + -1 * c.2) * iv], rfl, (S3.trans S39).step n1 B10, B10 _ _ hc2l (S39 _ _ h3), by rw [h10, List.map_append]; rfl, ((R3.same S39).snoc tl h9).sameB B10, by rw [List.length_append, L3]; rfl, fun s hs => ?_, fun j s e => ?_⟩
      · rcases List.mem_append.mp hs with z | z
        · exact B3 s z
        · rw [List.mem_singleton.mp z]
          omega
      · rcases Nat.lt_or_ge j ss.length with hj | hj
        · rw [List.getElem?_append_left hj] at e
          exact V3 j s e
        · rw [List.getElem?_append_right hj] at e
          have hj0 : j - ss.length = 0 := by
            rcases Nat.eq_zero_or_pos (j - ss.length) with z | z
            · exact z
            · rw [List.getElem?_eq_none (by rw [List.length_singleton]; omega)] at e
              cases e
          rw [hj0] at e
          cases e
          have ji : j = i := by omega
          subst ji
          intro c' d' hc' hd'
          rw [hc] at hc'
          rw [hd] at hd'
          cases hc'
          cases hd'
          rw [iv_den in1 in2]
          rw [Rat.sub_eq_add_neg, Rat.neg_mul, Rat.one_mul]
    · intro σ H3 hp
      obtain ⟨v2, v3, v4, qs, ss, rfl, S3, h3, hl3, R3, L3, B3, V3⟩ := pout _ _ _ hp
      have ql := R3.1
      rw [List.length_map, List.length_map, List.length_drop] at L3
      clear hct2 h12 h2
      walk_at "rd*"
      refine fun u H4 n4 S4 h4 => ?_
      have hl4 := S4 _ _ hl3
      have ul : u ≠ l := fun e => by rw [e, hl3] at n4; cases n4
      have h4' : H4 u = some (.tup (ratV 0)) := h4
      walk_at "rd*"
      refine ⟨by rw [sizeLine_eq]; omega, ?_⟩
      rintro _ H5 ⟨rfl, B5, h5⟩
      walk_at "rd"
      refine k l H5 (qs ++ [u]) (ss ++ [0]) n1 ((S3.trans S4).step n1 B5) (by rw [h5, List.map_append]; rfl) (((R3.same S4).snoc ul h4').sameB B5).rts (by rw [List.length_append, List.length_singleton]; omega) (fun s hs => ?_) (fun j s e => ?_) ?_
      · rcases List.mem_append.mp hs with z | z
        · exact B3 s z
        · rw [List.mem_singleton.mp z]
          exact ⟨by decide, by decide⟩
      · rcases Nat.lt_or_ge j ss.length with hj | hj
        · rw [List.getElem?_append_left hj] at e
          exact V3 j s e
        · intro c' d' hc' hd'
          have := (List.getElem?_eq_some_iff.mp hd').1
          omega
      · rw [List.getElem?_append_right (by omega), show cs.length - 1 - ss.length = 0 by omega]
        rfl

theorem sumR_len (ns ms : List Int) : (sumR ns ms).length = max ns.length ms.length := by unfold sumR; simp
theorem sumR_get {ns ms : List Int} {i : Nat} (h : i < max ns.length ms.length) : (sumR ns ms).getD i 0 = ns.getD i 0 + ms.getD i 0 := by
  unfold sumR
  rw [List.getD_eq_getElem?_getD, List.getElem?_map, List.getElem?_range h]
  rfl
theorem addR_eq (ns ms : List Int) : addR ns ms = sumR ns ms := by
  apply List.ext_getElem?
  intro i
  unfold addR sumR
  rw [List.getElem?_map]
  by_cases h1 : i < min ns.length ms.length
  · rw [List.append_assoc, List.getElem?_append_left (by simp; omega), List.getElem?_map, List.getElem?_range h1, List.getElem?_range (by omega)]
  · rw [List.append_assoc, List.getElem?_append_right (by simp; omega), List.length_map, List.length_range]
    by_cases h2 : i < max ns.length ms.length
    · rw [List.getElem?_range h2]
      show _ = some (ns.getD i 0 + ms.getD i 0)
      by_cases h3 : ns.length ≤ ms.length
      · rw [Nat.min_eq_left h3, List.drop_of_length_le (Nat.le_refl _), List.nil_append, List.getElem?_drop, List.getD_eq_getElem?_getD, List.getD_eq_getElem?_getD, List.getElem?_eq_none (l := ns) (by omega), show ns.length + (i - ns.length) = i by omega, List.getElem?_eq_getElem (by omega)]
        simp
      · rw [Nat.min_eq_right (by omega), List.drop_of_length_le (l := ms) (Nat.le_refl _), List.append_nil, List.getElem?_drop, List.getD_eq_getElem?_getD, List.getD_eq_getElem?_getD, List.getElem?_eq_none (l := ms) (by omega), show ms.length + (i - ms.length) = i by omega, List.getElem?_eq_getElem (by omega)]
        simp
    · rw [List.getElem?_eq_none (by simp; omega), List.getElem?_eq_none (by simp; omega)]
      rfl
theorem ok_added (T : Tx K mg A) : FnOk P A.wd K mg base CX0 1 A.f_added_rows A.fd_added_rows ["one", "other"] spAdd := by
  refine T.F_added_rows.ok sc_added_rows (fun vs H Q E h => ?_) (fun cdv A' outer s H vs Q E hr h => ?_)
  · match vs, h with
    | [.ref p, .ref q], _ => rfl
  · match vs, h with
    | [.ref p, .ref q], ⟨ns, ms, hp, hq, hl1, hl2, k⟩ =>
    have hu := hr.units
    refine ⟨_, (pss_cons (ps_set (i := 2) sc_added_rows.nd rfl (Or.inl rfl) (pe_callB (call_minF rfl) (by rfl) T.z_min boot_min (pa_cons (pe_callB call_lenM (by rfl) T.z_len boot_len (pa_cons (pvF 0) pa_nil)) (pa_cons (pe_callB call_lenM (by rfl) T.z_len boot_len (pa_cons (pvF 1) pa_nil)) pa_nil))))
      (pss_cons (ps_setC (i := 3) sc_added_rows.nd rfl rfl (pi_range1F (by rfl) T.z_range (pa_cons (pvF 2) pa_nil)) (fun _ _ _ _ _ => (pe_op op_addM (pe_ix ix_M (pvF 1) (pvF 0) (fun _ _ => rfl)) (pe_ix ix_M (pvF 2) (pvF 0) (fun _ _ => rfl)))) (compS (sc := defScope s_added_rows) (N := ["one", "other", "shared", "both"]) rfl rfl (by decide +kernel)) rfl)
      (pss_one (ps_ret (pe_op op_addM (pe_op op_addM (pvF 3) (pe_slice sl_A (pvF 0) (po_someF (pvF 2)) po_none)) (pe_slice sl_A (pvF 1) (po_someF (pvF 2)) po_none)))))), ?_⟩
    walk_at "rd*"
    refine ⟨by omega, by omega, fun D H2 n2 S2 h2 => ?_⟩
    have hmn : (min (ns.length : Int) (ms.length : Int)).toNat = min ns.length ms.length := by omega
    rw [hmn]
    refine compW_mapR (fun i => .int (ns.getD i 0 + ms.getD i 0)) n2 S2 h2 (by rw [sizeLine_eq]; omega) ?_ ?_
    · intro i H' Q' hi S' q'
      have hp' := S' _ _ hp
      have hq' := S' _ _ hq
      have e1 := atI_n (ns := ns) (i := i) (by omega)
      have e2 := atI_n (ns := ms) (i := i) (by omega)
      walk_at "rd*"
    intro H3 S3 h3
    have e3 : (List.range (min ns.length ms.length)).map (fun i => V.int (ns.getD i 0 + ms.getD i 0)) = ((List.range (min ns.length ms.length)).map fun i => ns.getD i 0 + ms.getD i 0).map V.int := by
      rw [List.map_map]
      rfl
    rw [e3] at h3
    have hp3 := S3 _ _ hp
    have hq3 := S3 _ _ hq
    walk_at "rd*"
    intro c H4 n4 S4 h4
    rw [show min (ns.length : Int) (ms.length : Int) = ((min ns.length ms.length : Nat) : Int) by omega, cutV_ints, cutG_from] at h4
    have h34 := S4 _ _ h3
    walk_at "rd*"
    refine ⟨by rw [sizeLine_eq]; simp; omega, fun d H5 n5 S5 h5 => ?_⟩
    have hq5 := S5 _ _ (S4 _ _ hq3)
    walk_at "rd*"
    intro e H6 n6 S6 h6
    rw [show min (ns.length : Int) (ms.length : Int) = ((min ns.length ms.length : Nat) : Int) by omega, cutV_ints, cutG_from] at h6
    have h56 := S6 _ _ h5
    walk_at "rd*"
    refine ⟨by rw [sizeLine_eq]; simp; omega, fun f H7 n7 S7 h7 => ?_⟩
    have S07 : Same H H6 := S3.trans (S4.trans (S5.trans S6))
    refine k _ _ ⟨f, rfl, S07.free n7, S07.trans S7, ?_⟩
    rw [h7, ← addR_eq]
    unfold addR
    simp only [List.map_append]

theorem mapmul_get (ns : List Int) (b : Int) (i : Nat) : (ns.map (· * b)).getD i 0 = ns.getD i 0 * b := by
  rw [List.getD_eq_getElem?_getD, List.getD_eq_getElem?_getD, List.getElem?_map]
  cases ns[i]? with
  | none => exact (Int.zero_mul b).symm
  | some x => rfl
theorem ok_times (T : Tx K mg A) : FnOk P A.wd K mg base CX0 1 A.f_times_row A.fd_times_row ["row", "by"] spTimes := by
  refine T.F_times_row.ok sc_times_row (fun vs H Q E h => ?_) (fun cdv A' outer s H vs Q E hr h => ?_)
  · match vs, h with
    | [.ref p, .int b], _ => rfl
  · match vs, h with
    | [.ref p, .int b], ⟨ns, hp, hb, hl, k⟩ =>
    have hu := hr.units
    refine ⟨_, (pss_one (ps_ret (pe_comp (pi_listF (pvF 0)) (fun _ _ _ _ _ => (pe_op op_mulM (pvF 0) (pvF 2))) (compS (sc := defScope s_times_row) (N := ["row", "by"]) rfl rfl (by decide +kernel)) rfl))), ?_⟩
    walk_at "rd"
    refine ⟨⟨_, SqL.of hp⟩, fun D H2 n2 S2 h2 => ?_⟩
    refine compW_map (fun v => match v with | .int c => .int (c * b) | v => v) n2 S2 h2 (SqL.of hp) (by rw [List.length_map, sizeLine_eq]; omega) ?_ ?_
    · intro i x H' Q' hx S' q'
      rw [List.getElem?_map] at hx
      obtain ⟨c, hc, rfl⟩ := Option.map_eq_some_iff.mp hx
      walk_at "rd"
      exact ⟨hb c (List.mem_of_getElem? hc), q'⟩
    intro H3 S3 h3
    refine k _ _ ⟨D, rfl, n2, S3, ?_⟩
    rw [h3, List.map_map, List.map_map]
    rfl

theorem delL_len (ns : List Int) (st n : Nat) : (delL ns st n).length = ns.length - st := by unfold delL; simp
theorem delL_get {ns : List Int} {st n i : Nat} (h : i < ns.length - st) : (delL ns st n).getD i 0 = if n ≤ st + i then ns.getD (st + i - n) 0 else 0 := by
  unfold delL
  rw [List.getD_eq_getElem?_getD, List.getElem?_map, List.getElem?_range h]
  rfl
theorem mem_delL {ns : List Int} {st n : Nat} {x : Int} (h : x ∈ delL ns st n) : x ∈ ns ∨ x = 0 := by
  unfold delL at h
  obtain ⟨i, hi, rfl⟩ := List.mem_map.mp h
  split
  · by_cases h2 : st + i - n < ns.length
    · exact .inl (getD_mem h2)
    · rw [List.getD_eq_getElem?_getD, List.getElem?_eq_none (by omega)]
      exact .inr rfl
  · exact .inr rfl
theorem ok_delayed (T : Tx K mg A) : FnOk P A.wd K mg base CX0 1 A.f_delayed A.fd_delayed ["known", "start", "many"] spDelayed := by
  refine T.F_delayed.ok sc_delayed (fun vs H Q E h => ?_) (fun cdv A' outer s H vs Q E hr h => ?_)
  · match vs, h with
    | [.ref k, .int st, .int n], _ => rfl
  · match vs, h with
    | [.ref k, .int st, .int n], ⟨ns, s, m, hk, e1, e2, hs, hl, q⟩ =>
    subst e1 e2
    have hu := hr.units
    refine ⟨_, (pss_one (ps_ret (pe_comp (pi_range2F (by rfl) T.z_range (pa_cons (pvF 1) (pa_cons (pe_callB call_lenM (by rfl) T.z_len boot_len (pa_cons (pvF 0) pa_nil)) pa_nil))) (fun _ _ _ _ _ => (pe_ifExp (pt_cmpF of_ge (pvF 0) (pvF 3) (nomark _)) (pe_ix ix_M (pvF 1) (pe_op of_sub (pvF 0) (pvF 3)) (fun _ _ => rfl)) pe_int)) (compS (sc := defScope s_delayed) (N := ["known", "start", "many"]) rfl rfl (by decide +kernel)) rfl))), ?_⟩
    walk_at "rd*"
    refine ⟨by omega, fun D H2 n2 S2 h2 => ?_⟩
    have hmn : ((ns.length : Int) - (s : Int)).toNat = ns.length - s := by omega
    rw [hmn]
    refine compW_mapR (fun i => .int (if m ≤ s + i then ns.getD (s + i - m) 0 else 0)) n2 S2 h2 (by rw [sizeLine_eq]; omega) ?_ ?_
    · intro i H' Q' hi S' q'
      have hk' := S' _ _ hk
      walk_at "rd*"
      split
      · rename_i h
        rw [if_pos (by omega)] at q'
        refine ⟨_, ?_, q'⟩
        rw [show (s : Int) + (i : Int) - (m : Int) = ((s + i - m : Nat) : Int) by omega]
        exact atI_n (by omega)
      · rename_i h
        rw [if_neg (by omega)] at q'
        exact q'
    intro H3 S3 h3
    refine q _ _ ⟨D, rfl, n2, S3, ?_⟩
    rw [h3]
    unfold delL
    rw [List.map_map]
    rfl
theorem ok_last (T : Tx K mg A) : FnOk P A.wd K mg base CX0 1 A.f_last_of A.fd_last_of ["known", "many"] spLast := by
  refine T.F_last_of.ok sc_last_of (fun vs H Q E h => ?_) (fun cdv A' outer s H vs Q E hr h => ?_)
  · match vs, h with
    | [.ref k, .int n], _ => rfl
  · match vs, h with
    | [.ref k, .int n], ⟨ns, m, hk, e1, hl, q⟩ =>
    subst e1
    have hu := hr.units
    refine ⟨_, (pss_one (ps_ret (pe_callTy call_tupF (by rfl) T.z_tuple boot_tuple (pa_cons (pe_slice sl_A (pvF 0) (po_someF (pe_callB (call_maxF rfl) (by rfl) T.z_max boot_max (pa_cons pe_int (pa_cons (pe_op of_sub (pe_callB call_lenM (by rfl) T.z_len boot_len (pa_cons (pvF 0) pa_nil)) (pvF 1)) pa_nil)))) po_none) pa_nil)))), ?_⟩
    walk_at "rd*"
    intro l H1 n1 S1 h1
    rw [show max 0 ((ns.length : Int) - (m : Int)) = ((ns.length - m : Nat) : Int) by omega, cutV_ints, cutG_from] at h1
    walk_at "rd*"
    intro t H2 n2 S2 h2
    exact q _ _ ⟨t, rfl, S1.free n2, S1.trans S2, h2⟩


theorem powL_len (n : Int) (m : Nat) : (powL n m).length = m + 1 := by unfold powL; simp
theorem powL_get {n : Int} {m i : Nat} (h : i < m + 1) : (powL n m).getD i 0 = n ^ i := by
  unfold powL
  rw [List.getD_eq_getElem?_getD, List.getElem?_map, List.getElem?_range h]
  rfl
theorem pow_bits {n : Int} (h : intBits n ≤ 10) : ∀ j : Nat, intBits (n ^ j) ≤ 1 + 10 * j
  | 0 => by rw [Int.pow_zero]; decide
  | j + 1 => by
    rw [Int.pow_succ]
    exact Nat.le_trans (intBits_mul_le (pow_bits h j) h) (by omega)
theorem ok_pow (T : Tx K mg A) : FnOk P A.wd K mg base CX0 1 A.f_powers_of A.fd_powers_of ["number", "most"] spPow := by
  refine T.F_powers_of.ok sc_powers_of (fun vs H Q E h => ?_) (fun cdv A' outer s H vs Q E hr h => ?_)
  · match vs, h with
    | [.int n, .int t], _ => rfl
  · match vs, h with
    | [.int n, .int t], ⟨m, e, hm, hb, k⟩ =>
    subst e
    have hu := hr.units
    refine ⟨_, (pss_cons (ps_set (i := 2) sc_powers_of.nd rfl (Or.inl rfl) (pe_lstS (pa_cons pe_int pa_nil)))
      (pss_cons (ps_forW PassesOwn.never rfl (pi_range1F (by rfl) T.z_range (pa_cons (pvF 1) pa_nil)) (pg_name (i := 3) sc_powers_of.nd rfl (Or.inl rfl))
      (pss_one (ps_expr (pe_bmF isLst_ty PySem.F.plainAttrs_list PySem.F.slot_list_append PySem.F.type_list_append mt_appendF (pvF 2) (pa_cons (pe_op op_mulM (pe_ix ix_M (pvF 2) (pvF 3) (fun _ _ => rfl)) (pvF 0)) pa_nil)))))
      (pss_one (ps_ret (pvF 2))))), ?_⟩
    walk_at "rd"
    refine ⟨by decide, ?_⟩
    intro l H1 n1 S1 h1
    walk_at "rd*"
    refine ⟨by omega, by omega, ?_⟩
    rw [Int.toNat_natCast]
    obtain ⟨Pv, pin, pout⟩ := opaqN (fun i σ H' => ∃ v3 : Option V, σ = [some (.int n), some (.int m), some (.ref l), v3] ∧ Same H H' ∧ H' l = some (.lst ((powL n i).map V.int)))
    refine forW_range (lo := 0) Pv (pin _ _ _ ⟨_, rfl, S1, by rw [h1]; show _ = some (HO.lst [V.int (n ^ 0)]); rw [Int.pow_zero]⟩) ?_ ?_
    · intro i σ H2 hi hp
      obtain ⟨v3, rfl, S2, h2⟩ := pout _ _ _ hp
      have e1 := atI_n (ns := powL n i) (i := i) (by rw [powL_len]; omega)
      rw [powL_get (by omega)] at e1
      have pl := powL_len n i
      clear h1 hp
      walk_at "rd*"
      refine ⟨IntMulOk.of_right (Nat.le_trans hb (by decide)), by rw [sizeLine_eq]; omega, ?_⟩
      rintro _ H3 ⟨rfl, B3, h3⟩
      refine pin _ _ _ ⟨_, rfl, S2.step n1 B3, ?_⟩
      rw [h3]
      unfold powL
      rw [List.range_succ (n := i + 1), List.map_append, List.map_append]
      show _ = some (HO.lst (_ ++ [V.int (n ^ (i + 1))]))
      rw [Int.pow_succ]
    · intro σ H2 hp
      obtain ⟨v3, rfl, S2, h2⟩ := pout _ _ _ hp
      walk_at "rd"
      exact k _ _ ⟨l, rfl, n1, S2, h2⟩
theorem facL_len (p q : Int) (t : Nat) : (facL p q t).length = t + 1 := by unfold facL; simp
theorem facL_get {p q : Int} {t i : Nat} (h : i < t + 1) : (facL p q t).getD i 0 = facF p q t i := by
  unfold facL
  rw [List.getD_eq_getElem?_getD, List.getElem?_map, List.getElem?_range h]
  rfl
theorem IsE.same {C : Addr} {H H' : Hp} {o : Addr} {p q : Int} {n t : Nat} (h : IsE C H o p q n t) (S : Same H H') : IsE C H' o p q n t := by
  obtain ⟨dx, gt, fa, h1, h2, h3⟩ := h
  exact ⟨dx, gt, fa, S _ _ h1, S _ _ h2, S _ _ h3⟩
theorem ok_einit (T : Tx K mg A) : FnOk P A.wd K mg base CX0 2 A.f_Echo_init A.fd_Echo_init ["self", "gain", "many", "turns"] (spEInit A.c_Echo) := by
  have G_powers_of : FnOk P A.wd K mg base CX0 1 _ _ _ _ := ok_pow T
  have cl_Echo := T.cl_Echo
  have na_Echo_gain := T.na_Echo_gain
  have na_Echo_many := T.na_Echo_many
  have na_Echo_turns := T.na_Echo_turns
  have na_Echo_factors := T.na_Echo_factors
  have na_Echo_factor_bottom := T.na_Echo_factor_bottom
  refine T.F_Echo_init.ok sc_Echo_init (fun vs H Q E h => ?_) (fun cdv A' outer s H vs Q E hr h => ?_)
  · match vs, h with
    | [.ref o, .ref gt, .int n, .int t], _ => rfl
  · match vs, h with
    | [.ref o, .ref gt, .int n, .int t], ⟨dx, m, tt, p, q, e1, e2, ht, bp, bq, hg, ho, k⟩ =>
    subst e1 e2
    have hu := hr.units
    have hr_powers_of : Room 1 _ := hr.mono (by decide)
    have gto : gt ≠ o := fun e => by rw [e, ho] at hg; cases hg
    refine ⟨_, (pss_cons (ps_fldF (pvF 0) (pvF 1) rfl)
      (pss_cons (ps_fldF (pvF 0) (pvF 2) rfl)
      (pss_cons (ps_fldF (pvF 0) (pvF 3) rfl)
      (pss_cons (ps_set (i := 4) sc_Echo_init.nd rfl (Or.inr rfl) (pe_call G_powers_of hr_powers_of (by rfl) T.m_powers_of T.F_powers_of.kp T.b_powers_of .nil pass0 (pa_cons (pe_ix ix_M (pvF 1) pe_int (fun _ _ => rfl)) (pa_cons (pvF 3) pa_nil))))
      (pss_cons (ps_set (i := 5) sc_Echo_init.nd rfl (Or.inr rfl) (pe_call G_powers_of hr_powers_of (by rfl) T.m_powers_of T.F_powers_of.kp T.b_powers_of .nil pass0 (pa_cons (pe_ix ix_M (pvF 1) pe_int (fun _ _ => rfl)) (pa_cons (pvF 3) pa_nil))))
      (pss_cons (ps_fldF (pvF 0) (pe_callTy call_tupF (by rfl) T.z_tuple boot_tuple (pa_cons (pe_comp (pi_range1F (by rfl) T.z_range (pa_cons (pe_op op_addM (pvF 3) pe_int) pa_nil)) (fun _ _ _ _ _ => (pe_op op_mulM (pe_ix ix_M (pvF 5) (pvF 0) (fun _ _ => rfl)) (pe_ix ix_M (pvF 6) (pe_op of_sub (pvF 4) (pvF 0)) (fun _ _ => rfl)))) (compS (sc := defScope s_Echo_init) (N := ["self", "gain", "many", "turns", "tops", "bottoms"]) rfl rfl (by decide +kernel)) rfl) pa_nil)) rfl)
      (pss_one (ps_fldF (pvF 0) (pe_ix ix_M (pvF 5) (pvF 3) (fun _ _ => rfl)) rfl)))))))), ?_⟩
    walk_at "rd*"
    intro H1 B1 h1
    walk_at "rd*"
    intro H2 B2 h2
    walk_at "rd*"
    intro H3 B3 h3
    have hg3 := B3 _ _ gto (B2 _ _ gto (B1 _ _ gto hg))
    walk_at "rd*"
    refine ⟨tt, rfl, ht, ?_⟩
    rintro _ H4 ⟨l4, rfl, n4, S4, h4⟩
    have hg4 := S4 _ _ hg3
    walk_at "rd*"
    refine ⟨tt, rfl, ht, ?_⟩
    rintro _ H5 ⟨l5, rfl, n5, S5, h5⟩
    have h45 := S5 _ _ h4
    have h35 := S5 _ _ (S4 _ _ h3)
    have pl1 := powL_len p tt
    have pl2 := powL_len q tt
    clear h4 hg4 hg3
    walk_at "rd*"
    refine ⟨by omega, by omega, fun D H6 n6 S6 h6 => ?_⟩
    rw [show ((tt : Int) + 1).toNat = tt + 1 by omega]
    refine compW_mapR (fun i => .int (facF p q tt i)) n6 S6 h6 (by rw [sizeLine_eq]; omega) ?_ ?_
    · intro i H' Q' hi S' q'
      have h4' := S' _ _ h45
      have h5' := S' _ _ h5
      have e1 := atI_n (ns := powL p tt) (i := i) (by omega)
      have e2 := atI_n (ns := powL q tt) (i := tt - i) (by omega)
      rw [powL_get (by omega)] at e1 e2
      rw [show ((tt - i : Nat) : Int) = (tt : Int) - (i : Int) by omega] at e2
      clear h45 h35 h5 hg ho h1 h2 h3 pl1 pl2
      walk_at "rd*"
      exact ⟨IntMulOk.of_le (pow_bits bp i) (pow_bits bq (tt - i)) (by omega), q'⟩
    intro H7 S7 h7
    have e7 : (List.range (tt + 1)).map (fun i => V.int (facF p q tt i)) = (facL p q tt).map V.int := by
      unfold facL
      rw [List.map_map]
      rfl
    rw [e7] at h7
    walk_at "rd*"
    intro fa H8 n8 S8 h8
    have h38 := S8 _ _ (S7 _ _ h35)
    have h58 := S8 _ _ (S7 _ _ h5)
    have e2 := atI_n (ns := powL q tt) (i := tt) (by omega)
    rw [powL_get (by omega)] at e2
    clear h45 h35 h5 h7 e7
    walk_at "rd*"
    intro H9 B9 h9
    have l5o : l5 ≠ o := fun e => by
      rw [e, h38] at h58
      cases h58
    have h59 := B9 _ _ l5o h58
    clear h38 h58
    walk_at "rd*"
    intro H10 B10 h10
    have S38 : Same H3 H8 := S4.trans (S5.trans (S7.trans S8))
    have fao : fa ≠ o := fun e => by
      have := S38 _ _ h3
      rw [e] at h8
      rw [h8] at this
      cases this
    refine k fa H10 (fun b u hb e => B10 _ _ hb (B9 _ _ hb (S38 _ _ (B3 _ _ hb (B2 _ _ hb (B1 _ _ hb e)))))) ?_ h10 (B10 _ _ fao (B9 _ _ fao h8))
    cases hn : H fa with
    | none => rfl
    | some u =>
      exfalso
      have := (S4.trans (S5.trans S7)) _ _ (B3 _ _ fao (B2 _ _ fao (B1 _ _ fao hn)))
      rw [this] at n8
      cases n8

theorem ok_egrain (T : Tx K mg A) : FnOk P A.wd K mg base CX0 1 A.f_Echo_grain A.fd_Echo_grain ["self"] (spEGrain A.c_Echo) := by
  have cl_Echo := T.cl_Echo
  have na_Echo_gain := T.na_Echo_gain
  have na_Echo_many := T.na_Echo_many
  have na_Echo_turns := T.na_Echo_turns
  have na_Echo_factors := T.na_Echo_factors
  have na_Echo_factor_bottom := T.na_Echo_factor_bottom
  refine T.F_Echo_grain.ok sc_Echo_grain (fun vs H Q E h => ?_) (fun cdv A' outer s H vs Q E hr h => ?_)
  · match vs, h with
    | [.ref o], _ => rfl
  · match vs, h with
    | [.ref o], ⟨p, q, n, t, ⟨dx, gt, fa, ho, hg, hf⟩, k⟩ =>
    have hu := hr.units
    unfold ecF at ho
    refine ⟨_, (pss_one (ps_ret (pe_fldF (pvF 0) rfl))), ?_⟩
    walk_at "rd*"
theorem ok_ereach (T : Tx K mg A) : FnOk P A.wd K mg base CX0 1 A.f_Echo_reach A.fd_Echo_reach ["self"] (spEReach A.c_Echo) := by
  have cl_Echo := T.cl_Echo
  have na_Echo_gain := T.na_Echo_gain
  have na_Echo_many := T.na_Echo_many
  have na_Echo_turns := T.na_Echo_turns
  have na_Echo_factors := T.na_Echo_factors
  have na_Echo_factor_bottom := T.na_Echo_factor_bottom
  refine T.F_Echo_reach.ok sc_Echo_reach (fun vs H Q E h => ?_) (fun cdv A' outer s H vs Q E hr h => ?_)
  · match vs, h with
    | [.ref o], _ => rfl
  · match vs, h with
    | [.ref o], ⟨p, q, n, t, ⟨dx, gt, fa, ho, hg, hf⟩, hn, k⟩ =>
    have hu := hr.units
    unfold ecF at ho
    refine ⟨_, (pss_one (ps_ret (pe_op op_mulM (pe_fldF (pvF 0) rfl) (pe_fldF (pvF 0) rfl)))), ?_⟩
    walk_at "rd*"
    exact ⟨IntMulOk.of_left (intBits_le_64 (by omega) (by omega)), by rw [← Int.natCast_mul]; exact k⟩

theorem echL_le (kn : List Int) (st n : Nat) (p q : Int) (t : Nat) : ∀ j, (echL kn st n p q t j).length ≤ kn.length - st
  | 0 => Nat.zero_le _
  | j + 1 => by
    have := echL_le kn st n p q t j
    rw [echL, sumR_len, List.length_map, delL_len]
    omega
theorem echL_len (kn : List Int) (st n : Nat) (p q : Int) (t j : Nat) : (echL kn st n p q t (j + 1)).length = kn.length - st := by
  have := echL_le kn st n p q t j
  rw [echL, sumR_len, List.length_map, delL_len]
  omega
theorem facF_bits {p q : Int} (bp : intBits p ≤ 10) (bq : intBits q ≤ 10) {t j : Nat} (ht : t ≤ 16) (hj : j ≤ t) : intBits (facF p q t j) ≤ 170 :=
  Nat.le_trans (intBits_mul_le (pow_bits bp j) (pow_bits bq (t - j))) (by omega)
theorem ok_ethr (T : Tx K mg A) : FnOk P A.wd K mg base CX0 2 A.f_Echo_through A.fd_Echo_through ["self", "state", "tops", "bottom"] (spEThr A.c_Echo) := by
  have G_delayed : FnOk P A.wd K mg base CX0 1 _ _ _ _ := ok_delayed T
  have G_last_of : FnOk P A.wd K mg base CX0 1 _ _ _ _ := ok_last T
  have G_added_rows : FnOk P A.wd K mg base CX0 1 _ _ _ _ := ok_added T
  have G_times_row : FnOk P A.wd K mg base CX0 1 _ _ _ _ := ok_times T
  have G_Echo_reach : FnOk P A.wd K mg base CX0 1 _ _ _ _ := ok_ereach T
  have cl_Echo := T.cl_Echo
  have na_Echo_gain := T.na_Echo_gain
  have na_Echo_many := T.na_Echo_many
  have na_Echo_turns := T.na_Echo_turns
  have na_Echo_factors := T.na_Echo_factors
  have na_Echo_factor_bottom := T.na_Echo_factor_bottom
  refine T.F_Echo_through.ok sc_Echo_through (fun vs H Q E h => ?_) (fun cdv A' outer s H vs Q E hr h => ?_)
  · match vs, h with
    | [.ref o, .ref st, .ref x, .int _], _ => rfl
  · match vs, h with
    | [.ref o, .ref st, .ref x, .int bt], ⟨p, q, n, t, zs, xs, is, hz, hx, lz, lx, hn, ht, bp, bq, by0, k⟩ =>
    have hu := hr.units
    have hr_delayed : Room 1 _ := hr.mono (by decide)
    have hr_last_of : Room 1 _ := hr.mono (by decide)
    have hr_added_rows : Room 1 _ := hr.mono (by decide)
    have hr_times_row : Room 1 _ := hr.mono (by decide)
    have hr_Echo_reach : Room 1 _ := hr.mono (by decide)
    have is0 := is
    obtain ⟨dx, gt, fa, ho, hg, hf⟩ := is
    unfold ecF at ho
    refine ⟨_, (pss_cons (ps_set (i := 4) sc_Echo_through.nd rfl (Or.inl rfl) (pe_op op_addM (pe_callTy call_listF (by rfl) T.z_list boot_list (pa_cons (pvF 1) pa_nil)) (pvF 2)))
      (pss_cons (ps_set (i := 5) sc_Echo_through.nd rfl (Or.inl rfl) (pe_lstS pa_nil))
      (pss_cons (ps_forW PassesOwn.never rfl (pi_range1F (by rfl) T.z_range (pa_cons (pe_op op_addM (pe_fldF (pvF 0) rfl) pe_int) pa_nil)) (pg_name (i := 6) sc_Echo_through.nd rfl (Or.inl rfl))
      (pss_cons (ps_set (i := 7) sc_Echo_through.nd rfl (Or.inl rfl) (pe_call G_delayed hr_delayed (by rfl) T.m_delayed T.F_delayed.kp T.b_delayed .nil pass0 (pa_cons (pvF 4) (pa_cons (pe_callB call_lenM (by rfl) T.z_len boot_len (pa_cons (pvF 1) pa_nil)) (pa_cons (pe_op op_mulM (pvF 6) (pe_fldF (pvF 0) rfl)) pa_nil)))))
      (pss_one (ps_set (i := 5) sc_Echo_through.nd rfl (Or.inl rfl) (pe_call G_added_rows hr_added_rows (by rfl) T.m_added_rows T.F_added_rows.kp T.b_added_rows .nil pass0 (pa_cons (pvF 5) (pa_cons (pe_call G_times_row hr_times_row (by rfl) T.m_times_row T.F_times_row.kp T.b_times_row .nil pass0 (pa_cons (pvF 7) (pa_cons (pe_ix ix_M (pe_fldF (pvF 0) rfl) (pvF 6) (fun _ _ => rfl)) pa_nil))) pa_nil)))))))
      (pss_one (ps_ret (pe_tupS (pa_cons (pvF 5) (pa_cons (pe_call G_last_of hr_last_of (by rfl) T.m_last_of T.F_last_of.kp T.b_last_of .nil pass0 (pa_cons (pvF 4) (pa_cons (pe_meth0F (pvF 0) T.cl_Echo T.me_Echo_reach G_Echo_reach hr_Echo_reach T.b_Echo_reach .nil pass0) pa_nil))) pa_nil)))))))), ?_⟩
    walk_at "rd*"
    intro l1 H1 n1 S1 h1
    have hx1 := S1 _ _ hx
    walk_at "rd*"
    refine ⟨by rw [sizeLine_eq]; omega, ?_⟩
    intro kn H2 n2 S2 h2
    rw [← List.map_append] at h2
    have S02 : Same H H2 := S1.trans S2
    clear h1 hx1
    walk_at "rd*"
    refine ⟨Nat.zero_le _, ?_⟩
    intro o0 H3 n3 S3 h3
    have S03 := S02.trans S3
    have h23 := S3 _ _ h2
    have ho3 := S03 _ _ ho
    clear h2
    walk_at "rd*"
    refine ⟨by omega, by omega, ?_⟩
    rw [show ((t : Int) + 1).toNat = t + 1 by omega]
    obtain ⟨Pv, pin, pout⟩ := opaqN (fun j σ H' => ∃ (ou : Addr) (v6 v7 : Option V), σ = [some (.ref o), some (.ref st), some (.ref x), some (.int bt), some (.ref kn), some (.ref ou), v6, v7] ∧ Same H2 H' ∧ H' kn = some (.lst ((zs ++ xs).map V.int)) ∧ H2 ou = none ∧ H' ou = some (.lst ((echL (zs ++ xs) zs.length n p q t j).map V.int)))
    refine forW_range (lo := 0) Pv (pin _ _ _ ⟨o0, _, _, rfl, S3, h23, n3, h3⟩) ?_ ?_
    · intro j σ H4 hj hp
      obtain ⟨ou, v6, v7, rfl, S4, hk4, nou, hou⟩ := pout _ _ _ hp
      have S04 := S02.trans S4
      have ho4 := S04 _ _ ho
      have hz4 := S04 _ _ hz
      have hf4 := S04 _ _ hf
      have e1 := atI_n (ns := facL p q t) (i := j) (by rw [facL_len]; omega)
      rw [facL_get (by omega)] at e1
      have fb := facF_bits bp bq (t := t) (j := j) ht (by omega)
      clear h23 ho3 h3 hp ho hz hf hx hg
      walk_at "rd*"
      refine ⟨IntMulOk.of_left (intBits_le_64 (by omega) (by omega)), zs ++ xs, rfl, zs.length, rfl, j * n, (Int.natCast_mul j n).symm, by simp, by simp; omega, ?_⟩
      rintro _ H5 ⟨hd, rfl, n5, S5, h5⟩
      have ho5 := S5 _ _ ho4
      have hf5 := S5 _ _ hf4
      have dl := delL_len (zs ++ xs) zs.length (j * n)
      clear ho4 hf4 hz4
      walk_at "rd*"
      refine ⟨_, rfl, ?_, by rw [dl]; simp; omega, ?_⟩
      · intro y hy
        rcases mem_delL hy with h | h
        · exact IntMulOk.of_le (by0 y h) fb (by decide)
        · rw [h]; exact IntMulOk.of_left (by decide)
      rintro _ H6 ⟨l6, rfl, n6, S6, h6⟩
      have hou6 := S6 _ _ (S5 _ _ hou)
      have el := echL_le (zs ++ xs) zs.length n p q t j
      rw [List.length_append] at el
      walk_at "rd*"
      refine ⟨_, rfl, _, rfl, by omega, by rw [List.length_map, dl]; simp; omega, ?_⟩
      rintro _ H7 ⟨ou', rfl, n7, S7, h7⟩
      have S47 := S5.trans (S6.trans S7)
      exact pin _ _ _ ⟨ou', _, _, rfl, S4.trans S47, S47 _ _ hk4, (S4.trans (S5.trans S6)).free n7, h7⟩
    · intro σ H4 hp
      obtain ⟨ou, v6, v7, rfl, S4, hk4, nou, hou⟩ := pout _ _ _ hp
      have S04 := S02.trans S4
      have ho4 := S04 _ _ ho
      have is4 := is0.same S04
      clear h23 ho3 h3 hp ho hz hf hx hg is0
      walk_at "rd*"
      refine ⟨p, q, n, t, is4, hn, zs ++ xs, rfl, n * t, rfl, by simp; omega, ?_⟩
      rintro _ H5 ⟨s2, rfl, n5, S5, h5⟩
      walk_at "rd*"
      intro r H6 n6 S6 h6
      exact k r ou s2 H6 (S04.trans (S5.trans S6)) ((S04.trans S5).free n6) (S02.free nou) h6 (S6 _ _ (S5 _ _ hou)) (S6 _ _ h5)
theorem echL_get {kn : List Int} {st n : Nat} {p q : Int} {t i : Nat} (h : i < kn.length - st) : ∀ j, (echL kn st n p q t j).getD i 0 = psum (fun m => (delL kn st (m * n)).getD i 0) p q t j
  | 0 => rfl
  | j + 1 => by
    rw [echL, sumR_get (by rw [List.length_map, delL_len]; omega), mapmul_get, echL_get h j, psum]
theorem TpsN.tps {l : Addr} {H : Hp} {qs : List Addr} {vs : List (List V)} (h : TpsN l H qs vs) : Tps H qs vs := ⟨h.1, fun i q s e1 e2 => (h.2 i q s e1 e2).2⟩
theorem Tps.same {H H' : Hp} {qs : List Addr} {vs : List (List V)} (h : Tps H qs vs) (S : Same H H') : Tps H' qs vs := ⟨h.1, fun i q s e1 e2 => S _ _ (h.2 i q s e1 e2)⟩
theorem Tps.sameB {o : Addr} {H H' : Hp} {qs : List Addr} {vs : List (List V)} {C dx : Addr} {fs : List (Str × V)} (h : Tps H qs vs) (ho : H o = some (.ins C dx fs)) (S : SameB o H H') : Tps H' qs vs :=
  ⟨h.1, fun i q s e1 e2 => S _ _ (fun z => by have := h.2 i q s e1 e2; rw [z, ho] at this; cases this) (h.2 i q s e1 e2)⟩
theorem TpsN.sameB {l : Addr} {H H' : Hp} {qs : List Addr} {vs : List (List V)} (h : TpsN l H qs vs) (S : SameB l H H') : TpsN l H' qs vs := ⟨h.1, fun i q s e1 e2 => ⟨(h.2 i q s e1 e2).1, S _ _ (h.2 i q s e1 e2).1 (h.2 i q s e1 e2).2⟩⟩
theorem TpsN.same {l : Addr} {H H' : Hp} {qs : List Addr} {vs : List (List V)} (h : TpsN l H qs vs) (S : Same H H') : TpsN l H' qs vs := h.sameB fun b o _ e => S b o e
theorem TpsN.nil {l : Addr} {H : Hp} : TpsN l H [] [] := ⟨rfl, fun i q s e => by simp at e⟩
theorem TpsN.snoc {l : Addr} {H : Hp} {qs : List Addr} {vs : List (List V)} {q : Addr} {v : List V} (h : TpsN l H qs vs) (hl : q ≠ l) (hq : H q = some (.tup v)) : TpsN l H (qs ++ [q]) (vs ++ [v]) := by
  refine ⟨by rw [List.length_append, List.length_append, h.1]; rfl, fun i q' s' e1 e2 => ?_⟩
  by_cases hi : i < qs.length
  · rw [List.getElem?_append_left hi] at e1
    rw [List.getElem?_append_left (by rw [← h.1]; exact hi)] at e2
    exact h.2 i q' s' e1 e2
  · rw [List.getElem?_append_right (by omega)] at e1
    rw [List.getElem?_append_right (by rw [← h.1]; omega)] at e2
    rw [← h.1] at e2
    cases hz : i - qs.length with
    | zero =>
      rw [hz] at e1 e2
      simp at e1 e2
      subst e1 e2
      exact ⟨hl, hq⟩
    | succ n =>
      rw [hz] at e1
      simp at e1
theorem ok_swinit (T : Tx K mg A) : FnOk P A.wd K mg base CX0 5 A.f_Swell_init A.fd_Swell_init ["self", "corners"] (spSwInit A.c_Swell) := by
  have G_slopes_of : FnOk P A.wd K mg base CX0 4 _ _ _ _ := ok_slopes T
  have G_shared_bottom : FnOk P A.wd K mg base CX0 3 _ _ _ _ := ok_shared T
  have G_over : FnOk P A.wd K mg base CX0 1 _ _ _ _ := ok_overr T
  have cl_Swell := T.cl_Swell
  have na_Swell_corners := T.na_Swell_corners
  have na_Swell_shared := T.na_Swell_shared
  have na_Swell_lines := T.na_Swell_lines
  refine T.F_Swell_init.ok sc_Swell_init (fun vs H Q E h => ?_) (fun cdv A' outer s H vs Q E hr h => ?_)
  · match vs, h with
    | [.ref o, .ref l], _ => rfl
  · match vs, h with
    | [.ref o, .ref l], ⟨dx, ps, cs, ho, hl, R, O, L1, L12, k⟩ =>
    have hu := hr.units
    have hr_slopes_of : Room 4 _ := hr.mono (by decide)
    have hr_shared_bottom : Room 3 _ := hr.mono (by decide)
    have hr_over : Room 1 _ := hr.mono (by decide)
    have pl := R.1
    have lo : l ≠ o := fun e => by rw [e, ho] at hl; cases hl
    refine ⟨_, (pss_cons (ps_fldF (pvF 0) (pe_callTy call_tupF (by rfl) T.z_tuple boot_tuple (pa_cons (pvF 1) pa_nil)) rfl)
      (pss_cons (ps_set (i := 2) sc_Swell_init.nd rfl (Or.inl rfl) (pe_call G_slopes_of hr_slopes_of (by rfl) T.m_slopes_of T.F_slopes_of.kp T.b_slopes_of .nil pass0 (pa_cons (pe_fldF (pvF 0) rfl) pa_nil)))
      (pss_cons (ps_fldF (pvF 0) (pe_call G_shared_bottom hr_shared_bottom (by rfl) T.m_shared_bottom T.F_shared_bottom.kp T.b_shared_bottom .nil pass0 (pa_cons (pe_op op_addM (pe_comp (pi_listF (pvF 1)) (fun _ _ _ _ _ => (pe_ix ix_M (pe_ix ix_M (pvF 0) pe_int (fun _ _ => rfl)) pe_int (fun _ _ => rfl))) (compS (sc := defScope s_Swell_init) (N := ["self", "corners", "slopes"]) rfl rfl (by decide +kernel)) rfl) (pe_comp (pi_listF (pvF 2)) (fun _ _ _ _ _ => (pe_ix ix_M (pvF 0) pe_int (fun _ _ => rfl))) (compS (sc := defScope s_Swell_init) (N := ["self", "corners", "slopes"]) rfl rfl (by decide +kernel)) rfl)) pa_nil)) rfl)
      (pss_one (ps_fldF (pvF 0) (pe_callTy call_tupF (by rfl) T.z_tuple boot_tuple (pa_cons (pe_compZ (pi_zip (by rfl) T.z_zip (pa_cons (pe_fldF (pvF 0) rfl) (pa_cons (pvF 2) pa_nil))) (fun _ _ _ _ _ => (pe_tupS (pa_cons (pe_ix ix_M (pvF 0) pe_int (fun _ _ => rfl)) (pa_cons (pe_call G_over hr_over (by rfl) T.m_over T.F_over.kp T.b_over .nil pass0 (pa_cons (pe_ix ix_M (pvF 0) pe_int (fun _ _ => rfl)) (pa_cons (pe_fldFK (K := K) (by rfl) (pvF 2) (by rfl)) pa_nil))) (pa_cons (pe_call G_over hr_over (by rfl) T.m_over T.F_over.kp T.b_over .nil pass0 (pa_cons (pvF 1) (pa_cons (pe_fldFK (K := K) (by rfl) (pvF 2) (by rfl)) pa_nil))) pa_nil))))) (compS2 (sc := defScope s_Swell_init) (N := ["self", "corners", "slopes"]) rfl rfl (by decide +kernel)) rfl) pa_nil)) rfl))))), ?_⟩
    walk_at "rd*"
    refine fun ct H1 n1 S1 h1 => ?_
    have ho1 := S1 _ _ ho
    walk_at "rd*"
    refine fun H2 B2 h2 => ?_
    have cto : ct ≠ o := fun e => by rw [e, ho] at n1; cases n1
    have hct2 := B2 _ _ cto h1
    have hl2 := B2 _ _ lo (S1 _ _ hl)
    have R2 := (R.same S1).sameB ho1 B2
    clear ho1 h1
    walk_at "rd*"
    refine ⟨ps, rfl, cs, R2, O, L1, L12, fun l3 H3 qs ss n3 S3 h3 R3 L3 B3 V3 Z3 => ?_⟩
    have hl3 := S3 _ _ hl2
    have R23 := R2.same S3
    have ho3 := S3 _ _ h2
    have hct3 := S3 _ _ hct2
    have ql := R3.1
    clear hl2 hct2 h2
    try walk_at "rd"
    refine ⟨⟨_, SqL.of hl3⟩, fun D4 H4 n4 S4 h4 => ?_⟩
    refine compW_at (cs.map fun c => V.int (c.2.den : Nat)) (by rw [List.length_map, List.length_map, pl]) n4 S4 h4 (SqL.of hl3) (by rw [List.length_map, pl, sizeLine_eq]; omega) ?_ ?_
    · intro i x z H' Q' hx hz S' q'
      obtain ⟨p, c, g, rfl, hc, hp, hg⟩ := R23.get hx
      rw [List.getElem?_map, hc] at hz
      cases hz
      have hp' := S' _ _ hp
      have hg' := S' _ _ hg
      unfold ratV at hg'
      clear ho3 hct3 hl3 h3 h4 hp hg
      walk_at "rd*"
    intro H5 S5 h5
    have h35 := S5 _ _ h3
    try walk_at "rd"
    refine ⟨⟨_, SqL.of h35⟩, fun D6 H6 n6 S6 h6 => ?_⟩
    have R35 := R3.same S5
    refine compW_at (ss.map fun s => V.int (s.den : Nat)) (by rw [List.length_map, List.length_map, ql]) n6 S6 h6 (SqL.of h35) (by rw [List.length_map, ql, sizeLine_eq]; omega) ?_ ?_
    · intro i x z H' Q' hx hz S' q'
      obtain ⟨p, c, rfl, hc, hp⟩ := R35.get hx
      rw [List.getElem?_map, hc] at hz
      cases hz
      have hp' := S' _ _ hp
      unfold ratV at hp'
      clear ho3 hct3 hl3 h3 h4 hp h35 h5 h6
      walk_at "rd*"
    intro H7 S7 h7
    have h57 := S7 _ _ h5
    clear h4 h6 h35
    walk_at "rd*"
    refine ⟨by rw [sizeLine_eq]; omega, fun b8 H8 n8 S8 h8 => ?_⟩
    have e8 : cs.map (fun c => V.int (c.2.den : Nat)) ++ ss.map (fun s => V.int (s.den : Nat)) = ((cs.map fun c => (c.2.den : Int)) ++ ss.map fun s => (s.den : Int)).map V.int := by
      rw [List.map_append, List.map_map, List.map_map]
      rfl
    rw [e8] at h8
    have S38 : Same H3 H8 := S5.trans (S7.trans S8)
    have ho8 := S38 _ _ ho3
    have hct8 := S38 _ _ hct3
    have hl38 := S38 _ _ h3
    have R8 := R23.same S38
    have Q8 := R3.same S38
    have bk : ∀ b ∈ (cs.map fun c => (c.2.den : Int)) ++ ss.map fun s => (s.den : Int), 1 ≤ b ∧ intBits b ≤ 64 := fun b hb => by
      rcases List.mem_append.mp hb with z | z
      · obtain ⟨c, hc, rfl⟩ := List.mem_map.mp z
        have := O.1 c hc
        have := c.2.den_pos
        omega
      · obtain ⟨s, hs, rfl⟩ := List.mem_map.mp z
        have := B3 s hs
        have := s.den_pos
        omega
    have lk := lcmL_ok _ bk
    have dv := lk.2.1
    have ll : ((cs.map fun c => (c.2.den : Int)) ++ ss.map fun s => (s.den : Int)).length = cs.length + ss.length := by simp
    clear h57 h7 h5 ho3 hct3 hl3
    walk_at "rd"
    refine ⟨_, h8, bk, by omega, ?_⟩
    rw [ll] at lk
    have hSw : SwOk cs ss (lcmL ((cs.map fun c => (c.2.den : Int)) ++ ss.map fun s => (s.den : Int))) := ⟨L3, V3, Z3, lk.1, by omega, fun c hc => dv _ (List.mem_append_left _ (List.mem_map.mpr ⟨c, hc, rfl⟩)), fun s hs => dv _ (List.mem_append_right _ (List.mem_map.mpr ⟨s, hs, rfl⟩)), fun s hs => (B3 s hs).1⟩
    clear dv
    generalize lcmL ((cs.map fun c => (c.2.den : Int)) ++ ss.map fun s => (s.den : Int)) = S at lk hSw
    clear h8
    walk_at "rd*"
    refine fun H9 B9 h9 => ?_
    have hct9 := B9 _ _ cto hct8
    have l3o : l3 ≠ o := fun e => by rw [e, ho8] at hl38; cases hl38
    have hl39 := B9 _ _ l3o hl38
    have R9 := R8.sameB ho8 B9
    have Q9 := Q8.sameB ho8 B9
    clear ho8 hct8 hl38
    walk_at "rd*"
    refine fun D10 H10 n10 S10 h10 => ?_
    refine compZW_zip (xs := ps.map V.ref) (ys := qs.map V.ref) (fun i zs H' => Same H9 H' ∧ H' D10 = some (.lst zs) ∧ zs.length = i ∧ ∃ us, zs = us.map V.ref ∧ TpsN D10 H' us (((List.zipWith (lnOf S) cs ss).map lnV).take i)) ⟨S10, h10, rfl, [], rfl, .nil⟩ (by rw [List.length_map, pl, sizeLine_eq]; omega) ?_ ?_ ?_
    · intro i zs H' hi ⟨S', h', zl, _⟩
      exact ⟨h', SqT.of (S' _ _ hct9), SqL.of (S' _ _ hl39), zl⟩
    · intro i x y zs H' p H'' hx hy ⟨S', h', zl, us, ez, TN⟩ np S'' h''
      obtain ⟨pc, c, g, rfl, hc, hpc, hg⟩ := R9.get hx
      obtain ⟨ps', s', rfl, hs', hps⟩ := Q9.get hy
      have Oc := O.1 c (List.mem_of_getElem? hc)
      have Bs := B3 s' (List.mem_of_getElem? hs')
      have SS := S'.trans S''
      have hpc' := SS _ _ hpc
      have hg' := SS _ _ hg
      have ho' := SS _ _ h9
      have hD' := S'' _ _ h'
      clear hct9 hl39 h9 h10 hpc hg h' h''
      walk_at "rd*"
      refine ⟨c.2, rfl, by omega, by omega, by omega, s', SS _ _ hps, by omega, by omega, by omega, by decide, fun u H3' n3' S3' h3' => ⟨S3' _ _ hD', fun H4' B4' h4' => ⟨(SS.trans S3').step n10 B4', h4', by rw [List.length_append, zl]; rfl, us ++ [u], by rw [ez, List.map_append]; rfl, ?_⟩⟩⟩
      have uD : u ≠ D10 := fun e => by rw [e, hD'] at n3'; cases n3'
      have et : ((List.zipWith (lnOf S) cs ss).map lnV).take (i + 1) = ((List.zipWith (lnOf S) cs ss).map lnV).take i ++ [lnV (lnOf S c s')] := by
        rw [List.take_add_one, List.getElem?_map, List.getElem?_zipWith, hc, hs']
        rfl
      rw [et]
      exact (((TN.same S'').same S3').snoc uD h3').sameB B4'
    intro zs H11 ⟨S11, h11, zl, us, ez, TN⟩
    have ho11 := S11 _ _ h9
    have hct11 := S11 _ _ hct9
    clear h10
    walk_at "rd*"
    refine fun ln H12 n12 S12 h12 => ?_
    have ho12 := S12 _ _ ho11
    have hct12 := S12 _ _ hct11
    clear h11 ho11 hct11
    walk_at "rd*"
    refine fun H13 B13 h13 => ?_
    have el : ((List.zipWith (lnOf S) cs ss).map lnV).take (min (ps.map V.ref).length (qs.map V.ref).length) = (List.zipWith (lnOf S) cs ss).map lnV := List.take_of_length_le (by rw [List.length_map, List.length_zipWith, List.length_map, List.length_map, pl, ql]; exact Nat.le_refl _)
    rw [el] at TN
    have lno : ln ≠ o := fun e => by rw [e, ho12] at h12; cases h12
    exact k ct ln S ss us H13 (fun b u hb e => B13 _ _ hb (S12 _ _ (S11 _ _ (B9 _ _ hb (S38 _ _ (S3 _ _ (B2 _ _ hb (S1 _ _ e)))))))) n1 h13 (B13 _ _ cto hct12) (B13 _ _ lno h12) ((TN.tps.same S12).sameB ho12 B13) hSw

theorem ok_iGain (T : Tx K mg A) : FnOk P A.wd K mg base CX0 1 A.f_Gain_init A.fd_Gain_init ["self", "gain"] (spIGain A.c_Gain) := by
  have cl_Gain := T.cl_Gain
  have na_Gain_gain := T.na_Gain_gain
  refine T.F_Gain_init.ok sc_Gain_init (fun vs H Q E h => ?_) (fun cdv A' outer s H vs Q E hr h => ?_)
  · match vs, h with
    | [.ref o, .ref gt], _ => rfl
  · match vs, h with
    | [.ref o, .ref gt], ⟨dx, ho, k⟩ =>
    have hu := hr.units
    refine ⟨_, (pss_one (ps_fldF (pvF 0) (pvF 1) rfl)), ?_⟩
    walk_at "rd*"
    intro H1 B1 h1
    exact k H1 B1 h1
theorem ok_iDelay (T : Tx K mg A) : FnOk P A.wd K mg base CX0 1 A.f_Delay_init A.fd_Delay_init ["self", "many"] (spIDelay A.c_Delay) := by
  have cl_Delay := T.cl_Delay
  have na_Delay_many := T.na_Delay_many
  refine T.F_Delay_init.ok sc_Delay_init (fun vs H Q E h => ?_) (fun cdv A' outer s H vs Q E hr h => ?_)
  · match vs, h with
    | [.ref o, .int n], _ => rfl
  · match vs, h with
    | [.ref o, .int n], ⟨dx, ho, k⟩ =>
    have hu := hr.units
    refine ⟨_, (pss_one (ps_fldF (pvF 0) (pvF 1) rfl)), ?_⟩
    walk_at "rd*"
    intro H1 B1 h1
    exact k H1 B1 h1
theorem ok_iBack (T : Tx K mg A) : FnOk P A.wd K mg base CX0 1 A.f_Back_init A.fd_Back_init ["self", "gain", "many"] (spIBack A.c_Back) := by
  have cl_Back := T.cl_Back
  have na_Back_gain := T.na_Back_gain
  have na_Back_many := T.na_Back_many
  refine T.F_Back_init.ok sc_Back_init (fun vs H Q E h => ?_) (fun cdv A' outer s H vs Q E hr h => ?_)
  · match vs, h with
    | [.ref o, .ref gt, .int n], _ => rfl
  · match vs, h with
    | [.ref o, .ref gt, .int n], ⟨dx, ho, k⟩ =>
    have hu := hr.units
    refine ⟨_, (pss_cons (ps_fldF (pvF 0) (pvF 1) rfl)
      (pss_one (ps_fldF (pvF 0) (pvF 2) rfl))), ?_⟩
    walk_at "rd*"
    intro H1 B1 h1
    walk_at "rd*"
    intro H2 B2 h2
    exact k H2 (fun b u hb e => B2 _ _ hb (B1 _ _ hb e)) h2
theorem ok_iHall (T : Tx K mg A) : FnOk P A.wd K mg base CX0 1 A.f_Hall_init A.fd_Hall_init ["self", "gain", "many"] (spIHall A.c_Hall) := by
  have cl_Hall := T.cl_Hall
  have na_Hall_gain := T.na_Hall_gain
  have na_Hall_many := T.na_Hall_many
  refine T.F_Hall_init.ok sc_Hall_init (fun vs H Q E h => ?_) (fun cdv A' outer s H vs Q E hr h => ?_)
  · match vs, h with
    | [.ref o, .ref gt, .int n], _ => rfl
  · match vs, h with
    | [.ref o, .ref gt, .int n], ⟨dx, ho, k⟩ =>
    have hu := hr.units
    refine ⟨_, (pss_cons (ps_fldF (pvF 0) (pvF 1) rfl)
      (pss_one (ps_fldF (pvF 0) (pvF 2) rfl))), ?_⟩
    walk_at "rd*"
    intro H1 B1 h1
    walk_at "rd*"
    intro H2 B2 h2
    exact k H2 (fun b u hb e => B2 _ _ hb (B1 _ _ hb e)) h2

theorem FsOf.same {H H' : Hp} {fs : List (Str × V)} {d : Dt} (h : FsOf H fs d) (S : Same H H') : FsOf H' fs d := by
  cases d with
  | gain y => obtain ⟨g, e, h1⟩ := h; exact ⟨g, e, S _ _ h1⟩
  | delay n => exact h
  | echo y n t => obtain ⟨g, fa, e, h1, h2⟩ := h; exact ⟨g, fa, e, S _ _ h1, S _ _ h2⟩
  | back y n => obtain ⟨g, e, h1⟩ := h; exact ⟨g, e, S _ _ h1⟩
  | hall y n => obtain ⟨g, e, h1⟩ := h; exact ⟨g, e, S _ _ h1⟩
  | swell cs => obtain ⟨ct, ln, S', ss, us, ps, e, h1, h2, h3, h4, h5⟩ := h; exact ⟨ct, ln, S', ss, us, ps, e, S _ _ h1, S _ _ h2, h3.same S, h4, h5.same S⟩
theorem IsP.same {A : Ad} {H H' : Hp} {o : Addr} {d : Dt} (h : IsP A H o d) (S : Same H H') : IsP A H' o d := by
  obtain ⟨dx, fs, h1, h2⟩ := h
  exact ⟨dx, fs, S _ _ h1, h2.same S⟩
theorem CsOk.crn {cs : List (Int × Rat)} (h : CsOk cs) : CrnOk cs := ⟨fun c hc => ⟨(h.1 c hc).1, Int.le_trans (h.1 c hc).2.1 (by decide), (h.1 c hc).2.2.b.1, (h.1 c hc).2.2.b.2⟩, h.2.1⟩
theorem abs_bits {x : Rat} {a : Nat} (h : intBits x.num ≤ a) : intBits (Rat.abs x).num ≤ a := by
  rw [abs_num]
  exact intBits_natAbs_le h

theorem atI_ref {us : List Addr} {i : Nat} {u : Addr} (h : us[i]? = some u) : atI (us.map V.ref) (i : Int) = some (.ref u) := atI_nat (by rw [List.getElem?_map, h]; rfl)
theorem IsSw.same {C : Addr} {H H' : Hp} {o : Addr} {ps : List Addr} {cs : List (Int × Rat)} {ss : List Rat} {S : Int} (h : IsSw C H o ps cs ss S) (Z : Same H H') : IsSw C H' o ps cs ss S := by
  obtain ⟨dx, ct, ln, us, h1, h2, h3, h4, h5⟩ := h
  exact ⟨dx, ct, ln, us, Z _ _ h1, Z _ _ h2, Z _ _ h3, h4.same Z, h5.same Z⟩
theorem line_get {H : Hp} {us : List Addr} {cs : List (Int × Rat)} {ss : List Rat} {S : Int} (h : Tps H us ((List.zipWith (lnOf S) cs ss).map lnV)) (hl : ss.length = cs.length) {i : Nat} (hi : i < cs.length) :
    ∃ u c s, us[i]? = some u ∧ cs[i]? = some c ∧ ss[i]? = some s ∧ H u = some (.tup (lnV (lnOf S c s))) := by
  have ul : us.length = cs.length := by
    rw [h.1, List.length_map, List.length_zipWith, hl, Nat.min_self]
  have h1 : us[i]? = some us[i] := List.getElem?_eq_getElem (by omega)
  have h2 : cs[i]? = some cs[i] := List.getElem?_eq_getElem (by omega)
  have h3 : ss[i]? = some ss[i] := List.getElem?_eq_getElem (by omega)
  refine ⟨_, _, _, h1, h2, h3, h.2 i _ _ h1 ?_⟩
  rw [List.getElem?_map, List.getElem?_zipWith, h2, h3]
  rfl
theorem ok_line (T : Tx K mg A) : FnOk P A.wd K mg base CX0 1 A.f_Swell_line_at A.fd_Swell_line_at ["self", "at"] (spLine A.c_Swell) := by
  have cl_Swell := T.cl_Swell
  have na_Swell_corners := T.na_Swell_corners
  have na_Swell_shared := T.na_Swell_shared
  have na_Swell_lines := T.na_Swell_lines
  refine T.F_Swell_line_at.ok sc_Swell_line_at (fun vs H Q E h => ?_) (fun cdv A' outer s H vs Q E hr h => ?_)
  · match vs, h with
    | [.ref o, .int t], _ => rfl
  · match vs, h with
    | [.ref o, .int t], ⟨ps, cs, ss, S, ⟨dx, ct, ln, us, ho, hct, hln, TP, R⟩, O, L1, L12, k⟩ =>
    have hu := hr.units
    have ul : us.length = cs.length := by
      rw [TP.1, List.length_map, List.length_zipWith, O.1, Nat.min_self]
    unfold swF at ho
    refine ⟨_, (pss_cons (ps_set (i := 2) sc_Swell_line_at.nd rfl (Or.inl rfl) pe_int)
      (pss_cons (ps_whileW PassesOwn.never (pw_and (pt_cmpF of_lt (pe_op op_addM (pvF 2) pe_int) (pe_callB call_lenM (by rfl) T.z_len boot_len (pa_cons (pe_fldF (pvF 0) rfl) pa_nil)) (nomark _)) (pw_and1 (pt_cmpF of_le (pe_ix ix_M (pe_ix ix_M (pe_fldF (pvF 0) rfl) (pe_op op_addM (pvF 2) pe_int) (fun _ _ => rfl)) pe_int (fun _ _ => rfl)) (pvF 1) (nomark _)))).pt
      (pss_one (ps_augF (i := 2) sc_Swell_line_at.nd rfl (Or.inl rfl) pe_int ip_addF)))
      (pss_one (ps_ret (pe_ix ix_M (pe_fldF (pvF 0) rfl) (pvF 2) (fun _ _ => rfl)))))), ?_⟩
    walk_at "rd"
    refine whileW_by (fun m σ H1 => ∃ j : Nat, σ = [some (.ref o), some (.int t), some (.int j)] ∧ H1 = H ∧ j < cs.length ∧ m = cs.length - j ∧ (j = 0 ∨ ∀ c, cs[j]? = some c → c.1 ≤ t)) _
      ⟨0, rfl, rfl, by omega, rfl, .inl rfl⟩ ?_
    rintro m σ H1 ⟨j, rfl, rfl, hj, rfl, hjt⟩
    have fin : (∀ d, cs[j + 1]? = some d → t < d.1) → ∃ v, atI (List.map V.ref us) (j : Int) = some v ∧ Q v H1 := fun hd => by
      obtain ⟨u, c, s', e1, e2, e3, e4⟩ := line_get TP O.1 hj
      exact ⟨_, atI_ref e1, k j u c s' e2 e3 e4 (hjt.imp id fun z => z c e2) hd⟩
    walk_at "rd*"
    split
    · obtain ⟨u, c, s', e1, e2, e3, e4⟩ := line_get TP O.1 (i := j + 1) (by omega)
      have e5 := atI_ref e1
      rw [Int.natCast_add] at e5
      refine ⟨_, e5, ?_⟩
      unfold lnV lnOf at e4
      walk_at "rd*"
      split
      · rename_i hc
        exact ⟨_, by omega, j + 1, by omega, by omega, rfl, .inr fun c' h' => by rw [e2] at h'; cases h'; exact hc⟩
      · rename_i hc
        exact fin fun d hd => by
          rw [e2] at hd
          cases hd
          omega
    · rename_i hc
      refine fin fun d hd => ?_
      have := (List.getElem?_eq_some_iff.mp hd).1
      omega
theorem ok_gainat (T : Tx K mg A) : FnOk P A.wd K mg base CX0 2 A.f_Swell_gain_at A.fd_Swell_gain_at ["self", "at"] (spGainAt A.c_Swell) := by
  have G_Swell_line_at : FnOk P A.wd K mg base CX0 1 _ _ _ _ := ok_line T
  have cl_Swell := T.cl_Swell
  have na_Swell_corners := T.na_Swell_corners
  have na_Swell_shared := T.na_Swell_shared
  have na_Swell_lines := T.na_Swell_lines
  refine T.F_Swell_gain_at.ok sc_Swell_gain_at (fun vs H Q E h => ?_) (fun cdv A' outer s H vs Q E hr h => ?_)
  · match vs, h with
    | [.ref o, .int t], _ => rfl
  · match vs, h with
    | [.ref o, .int t], ⟨ps, cs, ss, S, I, O, CO, L1, L12, t0, t1, k⟩ =>
    have hu := hr.units
    have hr_Swell_line_at : Room 1 _ := hr.mono (by decide)
    obtain ⟨dx, ct, ln, us, ho, _⟩ := id I
    unfold swF at ho
    refine ⟨_, (pss_cons (ps_set (i := 2) sc_Swell_gain_at.nd rfl (Or.inl rfl) (pe_methF (pvF 0) T.cl_Swell T.me_Swell_line_at G_Swell_line_at hr_Swell_line_at T.b_Swell_line_at .nil pass0 (pa_cons (pvF 1) pa_nil)))
      (pss_one (ps_ret (pe_op op_addM (pe_ix ix_M (pvF 2) pe_int (fun _ _ => rfl)) (pe_op op_mulM (pe_ix ix_M (pvF 2) pe_int (fun _ _ => rfl)) (pe_callB (call_maxF rfl) (by rfl) T.z_max boot_max (pa_cons pe_int (pa_cons (pe_op of_sub (pvF 1) (pe_ix ix_M (pvF 2) pe_int (fun _ _ => rfl))) pa_nil)))))))), ?_⟩
    walk_at "rd*"
    refine ⟨ps, cs, ss, S, I, O, L1, L12, fun m u c s' e1 e2 e3 e4 e5 => ?_⟩
    unfold lnV lnOf at e3
    have Oc := CO.1 c (List.mem_of_getElem? e1)
    obtain ⟨_, _, _, _, O5, _, _, O8⟩ := O
    have b1 : intBits (c.2.num * S.fdiv c.2.den) ≤ 10 + 1600 := intBits_mul_le Oc.2.2.1 (intBits_fdiv_le O5)
    have b2 : intBits (s'.num * S.fdiv s'.den) ≤ 60 + 1600 := intBits_mul_le (O8 s' (List.mem_of_getElem? e2)) (intBits_fdiv_le O5)
    have b3 : intBits (max 0 (t - c.1)) ≤ 64 := intBits_le_64 (by omega) (by omega)
    have b4 := intBits_mul_le b2 b3
    have b5 := intBits_add_le b1 b4
    have q := k m c s' ⟨e1, e2, e4, e5⟩ (Nat.le_trans b5 (by decide))
    unfold gainI at q
    walk_at "rd*"
    exact IntMulOk.of_le b2 b3 (by decide)
theorem ok_swgrain (T : Tx K mg A) : FnOk P A.wd K mg base CX0 1 A.f_Swell_grain A.fd_Swell_grain ["self"] (spSwGrain A.c_Swell) := by
  have cl_Swell := T.cl_Swell
  have na_Swell_corners := T.na_Swell_corners
  have na_Swell_shared := T.na_Swell_shared
  have na_Swell_lines := T.na_Swell_lines
  refine T.F_Swell_grain.ok sc_Swell_grain (fun vs H Q E h => ?_) (fun cdv A' outer s H vs Q E hr h => ?_)
  · match vs, h with
    | [.ref o], _ => rfl
  · match vs, h with
    | [.ref o], ⟨ps, cs, ss, S, ⟨dx, ct, ln, us, ho, _⟩, k⟩ =>
    have hu := hr.units
    unfold swF at ho
    refine ⟨_, (pss_one (ps_ret (pe_fldF (pvF 0) rfl))), ?_⟩
    walk_at "rd*"
theorem ok_swfresh (T : Tx K mg A) : FnOk P A.wd K mg base CX0 1 A.f_Swell_fresh A.fd_Swell_fresh ["self"] spSwFresh := by
  refine T.F_Swell_fresh.ok sc_Swell_fresh (fun vs H Q E h => ?_) (fun cdv A' outer s H vs Q E hr h => ?_)
  · match vs, h with
    | [.ref o], _ => rfl
  · match vs, h with
    | [.ref o], k =>
    have hu := hr.units
    refine ⟨_, (pss_one (ps_ret pe_int)), ?_⟩
    walk_at "rd*"
    exact k

theorem ok_fresh (T : Tx K mg A) : FnOk P A.wd K mg base CX0 1 A.f_Part_fresh A.fd_Part_fresh ["self"] spFresh := by
  refine T.F_Part_fresh.ok sc_Part_fresh (fun vs H Q E h => ?_) (fun cdv A' outer s H vs Q E hr h => ?_)
  · match vs, h with
    | [.ref o], _ => rfl
  · match vs, h with
    | [.ref o], k =>
    have hu := hr.units
    refine ⟨_, (pss_one (ps_ret (pe_tupS pa_nil))), ?_⟩
    walk_at "rd"
    refine ⟨Nat.zero_le _, fun t H1 n1 S1 h1 => k _ _ ⟨t, rfl, n1, S1, h1⟩⟩

theorem IsG.same {C : Addr} {H H' : Hp} {o : Addr} {p q : Int} (h : IsG C H o p q) (S : Same H H') : IsG C H' o p q := by
  obtain ⟨dx, gt, h1, h2⟩ := h
  exact ⟨dx, gt, S _ _ h1, S _ _ h2⟩
theorem ok_ggrain (T : Tx K mg A) : FnOk P A.wd K mg base CX0 1 A.f_Gain_grain A.fd_Gain_grain ["self"] (spGGrain A.c_Gain) := by
  have cl_Gain := T.cl_Gain
  have na_Gain_gain := T.na_Gain_gain
  refine T.F_Gain_grain.ok sc_Gain_grain (fun vs H Q E h => ?_) (fun cdv A' outer s H vs Q E hr h => ?_)
  · match vs, h with
    | [.ref o], _ => rfl
  · match vs, h with
    | [.ref o], ⟨p, q, ⟨dx, gt, ho, hg⟩, k⟩ =>
    have hu := hr.units
    refine ⟨_, (pss_one (ps_ret (pe_ix ix_M (pe_fldF (pvF 0) rfl) pe_int (fun _ _ => rfl)))), ?_⟩
    walk_at "rd*"
theorem ok_gthr (T : Tx K mg A) : FnOk P A.wd K mg base CX0 2 A.f_Gain_through A.fd_Gain_through ["self", "state", "tops", "bottom"] (spGThr A.c_Gain) := by
  have G_times_row : FnOk P A.wd K mg base CX0 1 _ _ _ _ := ok_times T
  have cl_Gain := T.cl_Gain
  have na_Gain_gain := T.na_Gain_gain
  refine T.F_Gain_through.ok sc_Gain_through (fun vs H Q E h => ?_) (fun cdv A' outer s H vs Q E hr h => ?_)
  · match vs, h with
    | [.ref o, .ref st, .ref x, .int _], _ => rfl
  · match vs, h with
    | [.ref o, .ref st, .ref x, .int bt], ⟨p, q, xs, ⟨dx, gt, ho, hg⟩, hx, lx, mx, k⟩ =>
    have hu := hr.units
    have hr_times_row : Room 1 _ := hr.mono (by decide)
    refine ⟨_, (pss_one (ps_ret (pe_tupS (pa_cons (pe_call G_times_row hr_times_row (by rfl) T.m_times_row T.F_times_row.kp T.b_times_row .nil pass0 (pa_cons (pvF 2) (pa_cons (pe_ix ix_M (pe_fldF (pvF 0) rfl) pe_int (fun _ _ => rfl)) pa_nil))) (pa_cons (pvF 1) pa_nil))))), ?_⟩
    walk_at "rd*"
    refine ⟨xs, rfl, mx, by omega, ?_⟩
    rintro _ H1 ⟨ou, rfl, n1, S1, h1⟩
    walk_at "rd*"
    intro r H2 n2 S2 h2
    exact k r ou st H2 (S1.trans S2) (S1.free n2) n1 h2 (S2 _ _ h1)
theorem IsD.same {C : Addr} {H H' : Hp} {o : Addr} {n : Nat} (h : IsD C H o n) (S : Same H H') : IsD C H' o n := by
  obtain ⟨dx, h1⟩ := h
  exact ⟨dx, S _ _ h1⟩
theorem ok_pgrain (T : Tx K mg A) : FnOk P A.wd K mg base CX0 1 A.f_Part_grain A.fd_Part_grain ["self"] spPGrain := by
  refine T.F_Part_grain.ok sc_Part_grain (fun vs H Q E h => ?_) (fun cdv A' outer s H vs Q E hr h => ?_)
  · match vs, h with
    | [.ref o], _ => rfl
  · match vs, h with
    | [.ref o], k =>
    have hu := hr.units
    refine ⟨_, (pss_one (ps_ret pe_int)), ?_⟩
    walk_at "rd"
    exact k
theorem ok_dthr (T : Tx K mg A) : FnOk P A.wd K mg base CX0 2 A.f_Delay_through A.fd_Delay_through ["self", "state", "tops", "bottom"] (spDThr A.c_Delay) := by
  have G_delayed : FnOk P A.wd K mg base CX0 1 _ _ _ _ := ok_delayed T
  have G_last_of : FnOk P A.wd K mg base CX0 1 _ _ _ _ := ok_last T
  have cl_Delay := T.cl_Delay
  have na_Delay_many := T.na_Delay_many
  refine T.F_Delay_through.ok sc_Delay_through (fun vs H Q E h => ?_) (fun cdv A' outer s H vs Q E hr h => ?_)
  · match vs, h with
    | [.ref o, .ref st, .ref x, .int _], _ => rfl
  · match vs, h with
    | [.ref o, .ref st, .ref x, .int bt], ⟨n, zs, xs, ⟨dx, ho⟩, hz, hx, lz, lx, k⟩ =>
    have hu := hr.units
    have hr_delayed : Room 1 _ := hr.mono (by decide)
    have hr_last_of : Room 1 _ := hr.mono (by decide)
    refine ⟨_, (pss_cons (ps_set (i := 4) sc_Delay_through.nd rfl (Or.inl rfl) (pe_op op_addM (pe_callTy call_listF (by rfl) T.z_list boot_list (pa_cons (pvF 1) pa_nil)) (pvF 2)))
      (pss_one (ps_ret (pe_tupS (pa_cons (pe_call G_delayed hr_delayed (by rfl) T.m_delayed T.F_delayed.kp T.b_delayed .nil pass0 (pa_cons (pvF 4) (pa_cons (pe_callB call_lenM (by rfl) T.z_len boot_len (pa_cons (pvF 1) pa_nil)) (pa_cons (pe_fldF (pvF 0) rfl) pa_nil)))) (pa_cons (pe_call G_last_of hr_last_of (by rfl) T.m_last_of T.F_last_of.kp T.b_last_of .nil pass0 (pa_cons (pvF 4) (pa_cons (pe_fldF (pvF 0) rfl) pa_nil))) pa_nil)))))), ?_⟩
    walk_at "rd*"
    intro l1 H1 n1 S1 h1
    have hx1 := S1 _ _ hx
    walk_at "rd*"
    refine ⟨by rw [sizeLine_eq]; omega, ?_⟩
    intro kn H2 n2 S2 h2
    rw [← List.map_append] at h2
    have S02 : Same H H2 := S1.trans S2
    have ho2 := S02 _ _ ho
    have hz2 := S02 _ _ hz
    clear h1 hx1
    walk_at "rd*"
    refine ⟨zs ++ xs, rfl, zs.length, rfl, n, rfl, by simp, by simp; omega, ?_⟩
    rintro _ H3 ⟨ou, rfl, n3, S3, h3⟩
    have ho3 := S3 _ _ ho2
    have h23 := S3 _ _ h2
    clear h2 ho2 hz2
    walk_at "rd*"
    refine ⟨zs ++ xs, rfl, n, rfl, by simp; omega, ?_⟩
    rintro _ H4 ⟨s2, rfl, n4, S4, h4⟩
    walk_at "rd*"
    intro r H5 n5 S5 h5
    exact k r ou s2 H5 (S02.trans (S3.trans (S4.trans S5))) ((S02.trans (S3.trans S4)).free n5) (S02.free n3) h5 (S5 _ _ (S4 _ _ h3)) (S5 _ _ h4)
theorem ok_bgrain (T : Tx K mg A) : FnOk P A.wd K mg base CX0 1 A.f_Back_grain A.fd_Back_grain ["self"] (spBGrain A.c_Back) := by
  have cl_Back := T.cl_Back
  have na_Back_gain := T.na_Back_gain
  have na_Back_many := T.na_Back_many
  refine T.F_Back_grain.ok sc_Back_grain (fun vs H Q E h => ?_) (fun cdv A' outer s H vs Q E hr h => ?_)
  · match vs, h with
    | [.ref o], _ => rfl
  · match vs, h with
    | [.ref o], ⟨dx, gt, n, p, q, ho, hg, k⟩ =>
    have hu := hr.units
    unfold bkF at ho
    refine ⟨_, (pss_one (ps_ret (pe_ix ix_M (pe_fldF (pvF 0) rfl) pe_int (fun _ _ => rfl)))), ?_⟩
    walk_at "rd*"
theorem ok_bthr (T : Tx K mg A) : FnOk P A.wd K mg base CX0 2 A.f_Back_through A.fd_Back_through ["self", "state", "tops", "bottom"] (spBThr A.c_Back) := by
  have G_delayed : FnOk P A.wd K mg base CX0 1 _ _ _ _ := ok_delayed T
  have G_last_of : FnOk P A.wd K mg base CX0 1 _ _ _ _ := ok_last T
  have G_added_rows : FnOk P A.wd K mg base CX0 1 _ _ _ _ := ok_added T
  have G_times_row : FnOk P A.wd K mg base CX0 1 _ _ _ _ := ok_times T
  have cl_Back := T.cl_Back
  have na_Back_gain := T.na_Back_gain
  have na_Back_many := T.na_Back_many
  refine T.F_Back_through.ok sc_Back_through (fun vs H Q E h => ?_) (fun cdv A' outer s H vs Q E hr h => ?_)
  · match vs, h with
    | [.ref o, .ref st, .ref x, .int _], _ => rfl
  · match vs, h with
    | [.ref o, .ref st, .ref x, .int bt], ⟨dx, gt, n, p, q, zs, xs, ho, hg, hz, hx, lz, lx, mz, mx, mq, m0, k⟩ =>
    have hu := hr.units
    have hr_delayed : Room 1 _ := hr.mono (by decide)
    have hr_last_of : Room 1 _ := hr.mono (by decide)
    have hr_added_rows : Room 1 _ := hr.mono (by decide)
    have hr_times_row : Room 1 _ := hr.mono (by decide)
    unfold bkF at ho
    refine ⟨_, (pss_cons (ps_set (i := 4) sc_Back_through.nd rfl (Or.inl rfl) (pe_op op_addM (pe_callTy call_listF (by rfl) T.z_list boot_list (pa_cons (pvF 1) pa_nil)) (pvF 2)))
      (pss_cons (ps_set (i := 5) sc_Back_through.nd rfl (Or.inl rfl) (pe_call G_delayed hr_delayed (by rfl) T.m_delayed T.F_delayed.kp T.b_delayed .nil pass0 (pa_cons (pvF 4) (pa_cons (pe_callB call_lenM (by rfl) T.z_len boot_len (pa_cons (pvF 1) pa_nil)) (pa_cons (pe_fldF (pvF 0) rfl) pa_nil)))))
      (pss_cons (ps_set (i := 6) sc_Back_through.nd rfl (Or.inl rfl) (pe_call G_added_rows hr_added_rows (by rfl) T.m_added_rows T.F_added_rows.kp T.b_added_rows .nil pass0 (pa_cons (pe_call G_times_row hr_times_row (by rfl) T.m_times_row T.F_times_row.kp T.b_times_row .nil pass0 (pa_cons (pvF 2) (pa_cons (pe_ix ix_M (pe_fldF (pvF 0) rfl) pe_int (fun _ _ => rfl)) pa_nil))) (pa_cons (pe_call G_times_row hr_times_row (by rfl) T.m_times_row T.F_times_row.kp T.b_times_row .nil pass0 (pa_cons (pvF 5) (pa_cons (pe_un of_neg (pe_ix ix_M (pe_fldF (pvF 0) rfl) pe_int (fun _ _ => rfl))) pa_nil))) pa_nil))))
      (pss_one (ps_ret (pe_tupS (pa_cons (pvF 6) (pa_cons (pe_call G_last_of hr_last_of (by rfl) T.m_last_of T.F_last_of.kp T.b_last_of .nil pass0 (pa_cons (pvF 4) (pa_cons (pe_fldF (pvF 0) rfl) pa_nil))) pa_nil)))))))), ?_⟩
    walk_at "rd*"
    intro l1 H1 n1 S1 h1
    have hx1 := S1 _ _ hx
    walk_at "rd*"
    refine ⟨by rw [sizeLine_eq]; omega, ?_⟩
    intro kn H2 n2 S2 h2
    rw [← List.map_append] at h2
    have S02 : Same H H2 := S1.trans S2
    have ho2 := S02 _ _ ho
    have hz2 := S02 _ _ hz
    clear h1 hx1
    walk_at "rd*"
    refine ⟨zs ++ xs, rfl, zs.length, rfl, n, rfl, by simp, by simp; omega, ?_⟩
    rintro _ H3 ⟨hd, rfl, n3, S3, h3⟩
    have S03 := S02.trans S3
    have ho3 := S03 _ _ ho
    have hg3 := S03 _ _ hg
    have hx3 := S03 _ _ hx
    have h23 := S3 _ _ h2
    clear h2 ho2 hz2
    walk_at "rd*"
    refine ⟨xs, rfl, mq, by omega, ?_⟩
    rintro _ H4 ⟨t4, rfl, n4, S4, h4⟩
    have ho4 := S4 _ _ ho3
    have hg4 := S4 _ _ hg3
    have h34 := S4 _ _ h3
    clear ho3 hg3 hx3
    walk_at "rd*"
    have dl := delL_len (zs ++ xs) zs.length n
    refine ⟨_, rfl, ?_, by rw [dl]; simp; omega, ?_⟩
    · intro y hy
      rcases mem_delL hy with h | h
      · rcases List.mem_append.mp h with h | h
        · exact mz y h
        · exact mx y h
      · rw [h]; exact m0
    rintro _ H5 ⟨t5, rfl, n5, S5, h5⟩
    have h45 := S5 _ _ h4
    walk_at "rd*"
    refine ⟨_, rfl, _, rfl, by simp; omega, by rw [List.length_map, dl]; simp; omega, ?_⟩
    rintro _ H6 ⟨ou, rfl, n6, S6, h6⟩
    have S36 : Same H3 H6 := (S4.trans S5).trans S6
    have ho6 := S36 _ _ (S03 _ _ ho)
    have h26 := S36 _ _ h23
    clear h4 h45 ho4 hg4 h34 h5 h3
    walk_at "rd*"
    refine ⟨zs ++ xs, rfl, n, rfl, by simp; omega, ?_⟩
    rintro _ H7 ⟨s2, rfl, n7, S7, h7⟩
    walk_at "rd*"
    intro r H8 n8 S8 h8
    have S06 := S03.trans S36
    exact k r ou s2 H8 (S06.trans (S7.trans S8)) ((S06.trans S7).free n8) ((S03.trans (S4.trans S5)).free n6) (S06.free n7) h8 (S8 _ _ (S7 _ _ h6)) (S8 _ _ h7)
theorem ok_twn (T : Tx K mg A) : FnOk P A.wd K mg base CX0 1 A.f_toward_nought A.fd_toward_nought ["top", "bottom"] spTwn := by
  refine T.F_toward_nought.ok sc_toward_nought (fun vs H Q E h => ?_) (fun cdv A' outer s H vs Q E hr h => ?_)
  · match vs, h with
    | [.int t, .int b], _ => rfl
  · match vs, h with
    | [.int t, .int b], ⟨b1, bb, k⟩ =>
    have hu := hr.units
    unfold twn at k
    refine ⟨_, (pss_one (ps_ret (pe_ifExp (pt_cmpF of_ge (pvF 0) pe_int (nomark _)) (pe_op of_fdiv (pvF 0) (pvF 1)) (pe_un of_neg (pe_op of_fdiv (pe_un of_neg (pvF 0)) (pvF 1)))))), ?_⟩
    walk_at "rd"
    split
    · rename_i h
      rw [if_pos h] at k
      exact ⟨⟨by omega, by omega⟩, k⟩
    · rename_i h
      rw [if_neg h] at k
      exact ⟨⟨by omega, by omega⟩, k⟩
theorem twn_bnd {t b : Int} (b1 : 1 ≤ b) : ((twn t b).natAbs : Int) * b ≤ (t.natAbs : Int) := by
  unfold twn
  split
  · rename_i h
    have f := Int.fmod_def t b
    have g := fm_bnd t (b := b) (by omega)
    have z : 0 ≤ t.fdiv b := by
      rw [Int.fdiv_eq_ediv_of_nonneg _ (by omega)]
      exact Int.ediv_nonneg h (by omega)
    have e : ((t.fdiv b).natAbs : Int) = t.fdiv b := by omega
    rw [e, Int.mul_comm]
    omega
  · rename_i h
    have f := Int.fmod_def (-t) b
    have g := fm_bnd (-t) (b := b) (by omega)
    have z : 0 ≤ (-t).fdiv b := by
      rw [Int.fdiv_eq_ediv_of_nonneg _ (by omega)]
      exact Int.ediv_nonneg (by omega) (by omega)
    have e : ((-((-t).fdiv b)).natAbs : Int) = (-t).fdiv b := by omega
    rw [e, Int.mul_comm]
    omega
theorem hallL_app (p q bt : Int) (n : Nat) : ∀ (a b kn : List Int), hallL p q bt n kn (a ++ b) = hallL p q bt n (hallL p q bt n kn a) b
  | [], b, kn => rfl
  | x :: a, b, kn => hallL_app p q bt n a b _
theorem hallL_pre (p q bt : Int) (n : Nat) : ∀ (a kn : List Int), ∃ ys, hallL p q bt n kn a = kn ++ ys ∧ ys.length = a.length
  | [], kn => ⟨[], by rw [List.append_nil]; rfl, rfl⟩
  | x :: a, kn => by
    obtain ⟨ys, e, l⟩ := hallL_pre p q bt n a (kn ++ [x + hadd p q bt (heard kn n) * bt])
    refine ⟨(x + hadd p q bt (heard kn n) * bt) :: ys, ?_, by rw [List.length_cons, List.length_cons, l]⟩
    rw [hallL, e, List.append_assoc]
    rfl
theorem hallL_len (p q bt : Int) (n : Nat) (a kn : List Int) : (hallL p q bt n kn a).length = kn.length + a.length := by
  obtain ⟨ys, e, l⟩ := hallL_pre p q bt n a kn
  rw [e, List.length_append, l]
theorem ok_hthr (T : Tx K mg A) : FnOk P A.wd K mg base CX0 2 A.f_Hall_through A.fd_Hall_through ["self", "state", "tops", "bottom"] (spHThr A.c_Hall) := by
  have G_toward_nought : FnOk P A.wd K mg base CX0 1 _ _ _ _ := ok_twn T
  have G_last_of : FnOk P A.wd K mg base CX0 1 _ _ _ _ := ok_last T
  have cl_Hall := T.cl_Hall
  have na_Hall_gain := T.na_Hall_gain
  have na_Hall_many := T.na_Hall_many
  refine T.F_Hall_through.ok sc_Hall_through (fun vs H Q E h => ?_) (fun cdv A' outer s H vs Q E hr h => ?_)
  · match vs, h with
    | [.ref o, .ref st, .ref x, .int _], _ => rfl
  · match vs, h with
    | [.ref o, .ref st, .ref x, .int bt], ⟨dx, gt, n, p, q, zs, xs, ho, hg, hz, hx, lz, lx, n1, q1, b1, bp, bq, bb, k⟩ =>
    have hu := hr.units
    have hr_toward_nought : Room 1 _ := hr.mono (by decide)
    have hr_last_of : Room 1 _ := hr.mono (by decide)
    unfold bkF at ho
    refine ⟨_, (pss_cons (ps_set (i := 4) sc_Hall_through.nd rfl (Or.inl rfl) (pe_callTy call_listF (by rfl) T.z_list boot_list (pa_cons (pvF 1) pa_nil)))
      (pss_cons (ps_forW PassesOwn.never rfl (pi_listF (pvF 2)) (pg_name (i := 5) sc_Hall_through.nd rfl (Or.inl rfl))
      (pss_cons (ps_set (i := 6) sc_Hall_through.nd rfl (Or.inl rfl) (pe_ifExp (pt_cmpF of_ge (pe_callB call_lenM (by rfl) T.z_len boot_len (pa_cons (pvF 4) pa_nil)) (pe_fldF (pvF 0) rfl) (nomark _)) (pe_ix ix_M (pvF 4) (pe_op of_sub (pe_callB call_lenM (by rfl) T.z_len boot_len (pa_cons (pvF 4) pa_nil)) (pe_fldF (pvF 0) rfl)) (fun _ _ => rfl)) pe_int))
      (pss_cons (ps_set (i := 7) sc_Hall_through.nd rfl (Or.inl rfl) (pe_call G_toward_nought hr_toward_nought (by rfl) T.m_toward_nought T.F_toward_nought.kp T.b_toward_nought .nil pass0 (pa_cons (pe_op op_mulM (pe_ix ix_M (pe_fldF (pvF 0) rfl) pe_int (fun _ _ => rfl)) (pvF 6)) (pa_cons (pe_op op_mulM (pe_ix ix_M (pe_fldF (pvF 0) rfl) pe_int (fun _ _ => rfl)) (pvF 3)) pa_nil))))
      (pss_one (ps_expr (pe_bmF isLst_ty PySem.F.plainAttrs_list PySem.F.slot_list_append PySem.F.type_list_append mt_appendF (pvF 4) (pa_cons (pe_op op_addM (pvF 5) (pe_op op_mulM (pvF 7) (pvF 3))) pa_nil)))))))
      (pss_one (ps_ret (pe_tupS (pa_cons (pe_slice sl_A (pvF 4) (po_someF (pe_callB call_lenM (by rfl) T.z_len boot_len (pa_cons (pvF 1) pa_nil))) po_none) (pa_cons (pe_call G_last_of hr_last_of (by rfl) T.m_last_of T.F_last_of.kp T.b_last_of .nil pass0 (pa_cons (pvF 4) (pa_cons (pe_fldF (pvF 0) rfl) pa_nil))) pa_nil))))))), ?_⟩
    walk_at "rd*"
    intro kn H1 n1' S1 h1
    have hx1 := S1 _ _ hx
    walk_at "rd*"
    refine ⟨⟨_, SqL.of hx1⟩, ?_⟩
    obtain ⟨Pv, pin, pout⟩ := opaqN (fun i σ H' => ∃ (v5 v6 v7 : Option V), σ = [some (.ref o), some (.ref st), some (.ref x), some (.int bt), some (.ref kn), v5, v6, v7] ∧ Same H H' ∧ H' kn = some (.lst ((hallL p q bt n zs (xs.take i)).map V.int)))
    refine forW_list (xs := xs.map V.int) Pv (pin _ _ _ ⟨_, _, _, rfl, S1, h1⟩) ?_ ?_ ?_
    · intro i σ H2 hi hp
      obtain ⟨v5, v6, v7, rfl, S2, h2⟩ := pout _ _ _ hp
      exact SqL.of (S2 _ _ hx)
    · intro i v σ H2 hv hp
      rw [List.getElem?_map] at hv
      obtain ⟨y, hy, rfl⟩ := Option.map_eq_some_iff.mp hv
      obtain ⟨v5, v6, v7, rfl, S2, h2⟩ := pout _ _ _ hp
      have ho2 := S2 _ _ ho
      have hg2 := S2 _ _ hg
      have et : xs.take (i + 1) = xs.take i ++ [y] := by rw [List.take_add_one, hy]; rfl
      have ea := hallL_app p q bt n (xs.take i) [y] zs
      rw [← et] at ea
      have hl := hallL_len p q bt n (xs.take i) zs
      rw [List.length_take] at hl
      have hi := (List.getElem?_eq_some_iff.mp hy).1
      obtain ⟨L, eL⟩ : ∃ L, hallL p q bt n zs (xs.take i) = L := ⟨_, rfl⟩
      rw [eL] at ea hl h2
      replace ea : hallL p q bt n zs (xs.take (i + 1)) = L ++ [y + hadd p q bt (heard L n) * bt] := ea
      clear hv hp h1 hx1 ho hg hx hz
      have qb1 : 1 ≤ q * bt := Int.mul_pos (by omega) (by omega)
      have qbb : intBits (q * bt) ≤ 8000 := Nat.le_trans (intBits_mul_le bq bb) (by decide)
      have fin : ∀ (h : Int) (H3 : Hp), h = heard L n → SameB kn H2 H3 → H3 kn = some (.lst (L.map V.int ++ [.int (y + twn (p * h) (q * bt) * bt)])) → ∀ v5 v6 v7, Pv (i + 1) [some (.ref o), some (.ref st), some (.ref x), some (.int bt), some (.ref kn), v5, v6, v7] H3 := by
        intro h H3 eh B3 h3 v5 v6 v7
        refine pin _ _ _ ⟨_, _, _, rfl, S2.step n1' B3, ?_⟩
        rw [h3, ea, List.map_append, eh]
        rfl
      walk_at "rd*"
      split
      · rename_i hc
        refine ⟨.int (L.getD (L.length - n) 0), ?_, IntMulOk.of_left bp, IntMulOk.of_left bq, IntMulOk.of_right bb, by rw [sizeLine_eq]; omega, ?_⟩
        · rw [← hl, show ((L.length : Nat) : Int) - (n : Int) = ((L.length - n : Nat) : Int) by omega]
          exact atI_n (by omega)
        rintro _ H3 ⟨rfl, B3, h3⟩
        refine fin _ H3 ?_ B3 h3 _ _ _
        unfold heard
        rw [if_pos (by omega)]
      · rename_i hc
        refine ⟨IntMulOk.of_left bp, IntMulOk.of_left bq, IntMulOk.of_right bb, by rw [sizeLine_eq]; omega, ?_⟩
        rintro _ H3 ⟨rfl, B3, h3⟩
        refine fin 0 H3 ?_ B3 h3 _ _ _
        unfold heard
        rw [if_neg (by omega)]
    · intro σ H2 hp
      obtain ⟨v5, v6, v7, rfl, S2, h2⟩ := pout _ _ _ hp
      rw [List.length_map, List.take_of_length_le (Nat.le_refl _)] at h2
      have hz2 := S2 _ _ hz
      have ho2 := S2 _ _ ho
      have hl := hallL_len p q bt n xs zs
      clear hp h1 hx1 ho hg hx hz
      walk_at "rd*"
      intro ou H3 n3 S3 h3
      rw [cutV_ints, cutG_from] at h3
      have h23 := S3 _ _ h2
      have ho3 := S3 _ _ ho2
      walk_at "rd*"
      refine ⟨_, rfl, n, rfl, by omega, ?_⟩
      rintro _ H4 ⟨s2, rfl, n4, S4, h4⟩
      walk_at "rd*"
      intro r H5 n5 S5 h5
      exact k r ou s2 H5 (S2.trans (S3.trans (S4.trans S5))) ((S2.trans (S3.trans S4)).free n5) (S2.free n3) h5 (S5 _ _ (S4 _ _ h3)) (S5 _ _ h4)

theorem ext0 {a b : List Int} (hl : a.length = b.length) (h : ∀ i, i < a.length → a.getD i 0 = b.getD i 0) : a = b := by
  apply List.ext_getElem?
  intro i
  by_cases hi : i < a.length
  · have := h i hi
    rw [List.getD_eq_getElem?_getD, List.getD_eq_getElem?_getD, List.getElem?_eq_getElem hi, List.getElem?_eq_getElem (by omega)] at this
    rw [List.getElem?_eq_getElem hi, List.getElem?_eq_getElem (by omega)]
    simpa using this
  · rw [List.getElem?_eq_none (by omega), List.getElem?_eq_none (by omega)]
theorem getD_app (a b : List Int) (i : Nat) : (a ++ b).getD i 0 = if i < a.length then a.getD i 0 else b.getD (i - a.length) 0 := by
  rw [List.getD_eq_getElem?_getD]
  split
  · rename_i h
    rw [List.getElem?_append_left h, ← List.getD_eq_getElem?_getD]
  · rename_i h
    rw [List.getElem?_append_right (by omega), ← List.getD_eq_getElem?_getD]
theorem getD_drop (a : List Int) (k i : Nat) : (a.drop k).getD i 0 = a.getD (k + i) 0 := by
  rw [List.getD_eq_getElem?_getD, List.getElem?_drop, ← List.getD_eq_getElem?_getD]
theorem drop_pre {xs ys : List Int} {k : Nat} (h : k ≤ xs.length) : xs.drop k ++ ys = (xs ++ ys).drop k := (List.drop_append_of_le_length h).symm
theorem delL_trim {xs ys : List Int} {N k : Nat} (hk : k ≤ N) : delL (xs.drop (xs.length - N) ++ ys) (xs.drop (xs.length - N)).length k = delL (xs ++ ys) xs.length k := by
  refine ext0 (by rw [delL_len, delL_len]; simp) fun i hi => ?_
  rw [delL_len, List.length_append] at hi
  rw [delL_get (by rw [List.length_append]; omega), delL_get (by rw [List.length_append]; omega), drop_pre (by omega), List.length_drop, getD_drop]
  by_cases h1 : k ≤ xs.length + i
  · by_cases h2 : N ≤ xs.length
    · rw [if_pos h1, if_pos (by omega)]
      congr 1
      omega
    · have e : xs.length - N = 0 := by omega
      rw [e, if_pos h1, if_pos (by omega)]
      congr 1
      omega
  · rw [if_neg h1, if_neg (by omega)]
theorem drop_trim (xs ys : List Int) (N : Nat) : (xs.drop (xs.length - N) ++ ys).drop ((xs.drop (xs.length - N) ++ ys).length - N) = (xs ++ ys).drop ((xs ++ ys).length - N) := by
  rw [drop_pre (by omega), List.drop_drop, List.length_drop, List.length_append]
  congr 1
  omega
theorem hallL_trim (p q b : Int) (n : Nat) : ∀ (ys W zs : List Int), (n ≤ zs.length ∨ W = []) → hallL p q b n (W ++ zs) ys = W ++ hallL p q b n zs ys
  | [], W, zs, _ => rfl
  | y :: ys, W, zs, h => by
    have e : heard (W ++ zs) n = heard zs n := by
      rcases h with h | h
      · unfold heard
        rw [if_pos (by rw [List.length_append]; omega), if_pos h, getD_app, if_neg (by rw [List.length_append]; omega)]
        congr 1
        rw [List.length_append]
        omega
      · rw [h, List.nil_append]
    rw [hallL, hallL, e, List.append_assoc, hallL_trim p q b n ys W _ (h.elim (fun z => .inl (by rw [List.length_append]; omega)) .inr)]
theorem outs_len (d : Dt) (b S : Int) (ss : List Rat) (xs ys : List Int) : (outs d b S ss xs ys).length = ys.length := by unfold outs; simp
theorem outs_get {d : Dt} {b S : Int} {ss : List Rat} {xs ys : List Int} {i : Nat} (h : i < ys.length) : (outs d b S ss xs ys).getD i 0 = outAt b S ss (xs ++ ys) (xs.length + i) d := by
  unfold outs
  rw [List.getD_eq_getElem?_getD, List.getElem?_map, List.getElem?_range h]
  rfl
theorem hallL_pre0 (p q b : Int) (n : Nat) (xs ys : List Int) {i : Nat} (h : i < xs.length) : (hallL p q b n [] (xs ++ ys)).getD i 0 = (hallL p q b n [] xs).getD i 0 := by
  obtain ⟨zs, e, _⟩ := hallL_pre p q b n ys (hallL p q b n [] xs)
  rw [hallL_app, e, getD_app, if_pos (by rw [hallL_len]; simpa using h)]
theorem outAt_pre (d : Dt) (b S : Int) (ss : List Rat) {xs ys : List Int} {i : Nat} (h : i < xs.length) : outAt b S ss (xs ++ ys) i d = outAt b S ss xs i d := by
  have g : ∀ j, j ≤ i → (xs ++ ys).getD j 0 = xs.getD j 0 := fun j hj => by rw [getD_app, if_pos (by omega)]
  have g2 : ∀ n, (if n ≤ i then (xs ++ ys).getD (i - n) 0 else 0) = if n ≤ i then xs.getD (i - n) 0 else 0 := fun n => by
    rw [g _ (by omega)]
  cases d with
  | gain y => simp only [outAt, g i (Nat.le_refl _)]
  | delay n => simp only [outAt, g2]
  | echo y n t => simp only [outAt, g2]
  | back y n => simp only [outAt, g2, g i (Nat.le_refl _)]
  | hall y n => exact hallL_pre0 _ _ _ _ _ _ h
  | swell cs => simp only [outAt, g i (Nat.le_refl _)]
theorem outs_app (d : Dt) (b S : Int) (ss : List Rat) (xs ys zs : List Int) : outs d b S ss xs (ys ++ zs) = outs d b S ss xs ys ++ outs d b S ss (xs ++ ys) zs := by
  refine ext0 (by rw [List.length_append, outs_len, outs_len, outs_len, List.length_append]) fun i hi => ?_
  rw [outs_len, List.length_append] at hi
  rw [outs_get (by rw [List.length_append]; exact hi), getD_app, outs_len]
  split
  · rename_i h
    rw [outs_get h, ← List.append_assoc, outAt_pre (h := by rw [List.length_append]; omega)]
  · rename_i h
    rw [outs_get (by omega), ← List.append_assoc, List.length_append]
    congr 1
    omega
theorem psum_congr {X Y : Nat → Int} {p q : Int} {t : Nat} : ∀ {j : Nat}, (∀ m, m < j → X m = Y m) → psum X p q t j = psum Y p q t j
  | 0, _ => rfl
  | j + 1, h => by rw [psum, psum, psum_congr (fun m hm => h m (by omega)), h j (by omega)]
theorem gat_eq {S t : Int} : ∀ {cs : List (Int × Rat)} {ss : List Rat} {m : Nat} {c : Int × Rat} {s : Rat}, (∀ (i : Nat) c d, cs[i]? = some c → cs[i + 1]? = some d → c.1 < d.1) → LineAt cs ss t m c s → gatS S t cs ss = gainI S t c s
  | [], ss, m, c, s, _, L => by
    have := L.1
    simp at this
  | c0 :: cs, [], m, c, s, _, L => by
    have := L.2.1
    simp at this
  | c0 :: cs, s0 :: ss, 0, c, s, _, L => by
    obtain ⟨l1, l2, l3, l4⟩ := L
    simp at l1 l2
    subst l1 l2
    unfold gatS
    cases cs with
    | nil => rfl
    | cons d r =>
      rw [List.getElem?_cons_succ] at l4
      have := l4 d rfl
      show (if t < d.1 then _ else _) = _
      rw [if_pos this]
  | c0 :: cs, s0 :: ss, m + 1, c, s, O, L => by
    obtain ⟨l1, l2, l3, l4⟩ := L
    rw [List.getElem?_cons_succ] at l1 l2
    have O' : ∀ (i : Nat) c d, cs[i]? = some c → cs[i + 1]? = some d → c.1 < d.1 := fun i c d h1 h2 => O (i + 1) c d (by rw [List.getElem?_cons_succ]; exact h1) (by rw [List.getElem?_cons_succ]; exact h2)
    have ct : c.1 ≤ t := by
      rcases l3 with z | z
      · omega
      · exact z
    have ih := gat_eq (S := S) (t := t) (cs := cs) (ss := ss) (m := m) O' ⟨l1, l2, .inr ct, fun d hd => l4 d (by rw [List.getElem?_cons_succ]; exact hd)⟩
    unfold gatS
    cases cs with
    | nil => simp at l1
    | cons d r =>
      have mono : ∀ (k : Nat) e, (d :: r)[k]? = some e → d.1 ≤ e.1 := fun k => by
        induction k with
        | zero => intro e he; simp at he; rw [he]; exact Int.le_refl _
        | succ k ih2 =>
          intro e he
          have hk := (List.getElem?_eq_some_iff.mp he).1
          have h1 : (d :: r)[k]? = some ((d :: r)[k]'(by omega)) := List.getElem?_eq_getElem _
          have := O' k _ e h1 he
          have := ih2 _ h1
          omega
      have := mono m c l1
      show (if t < d.1 then _ else _) = _
      rw [if_neg (by omega)]
      exact ih
theorem FsS.same {H H' : Hp} {fs : List (Str × V)} {S : Int} {ss : List Rat} {d : Dt} (h : FsS H fs S ss d) (Z : Same H H') : FsS H' fs S ss d := by
  cases d with
  | swell cs => obtain ⟨ct, ln, us, ps, e, h1, h2, h3, h4, h5⟩ := h; exact ⟨ct, ln, us, ps, e, Z _ _ h1, Z _ _ h2, h3.same Z, h4, h5.same Z⟩
  | gain y => exact FsOf.same (d := .gain y) h Z
  | delay n => exact FsOf.same (d := .delay n) h Z
  | echo y n t => exact FsOf.same (d := .echo y n t) h Z
  | back y n => exact FsOf.same (d := .back y n) h Z
  | hall y n => exact FsOf.same (d := .hall y n) h Z
theorem IsPS.same {A : Ad} {H H' : Hp} {o : Addr} {d : Dt} {S : Int} {ss : List Rat} (h : IsPS A H o d S ss) (Z : Same H H') : IsPS A H' o d S ss := by
  obtain ⟨dx, fs, h1, h2⟩ := h
  exact ⟨dx, fs, Z _ _ h1, h2.same Z⟩
theorem IsPS.isP {A : Ad} {H : Hp} {o : Addr} {d : Dt} {S : Int} {ss : List Rat} (h : IsPS A H o d S ss) : IsP A H o d := by
  obtain ⟨dx, fs, h1, h2⟩ := h
  refine ⟨dx, fs, h1, ?_⟩
  cases d with
  | swell cs => obtain ⟨ct, ln, us, ps, e, h1, h2, h3, h4, h5⟩ := h2; exact ⟨ct, ln, S, ss, us, ps, e, h1, h2, h3, h4, h5⟩
  | _ => exact h2
theorem IsP.pick {A : Ad} {H : Hp} {o : Addr} {d : Dt} (h : IsP A H o d) : ∃ S ss, IsPS A H o d S ss := by
  obtain ⟨dx, fs, h1, h2⟩ := h
  cases d with
  | swell cs => obtain ⟨ct, ln, S, ss, us, ps, e, h3, h4, h5, h6, h7⟩ := h2; exact ⟨S, ss, dx, fs, h1, ct, ln, us, ps, e, h3, h4, h5, h6, h7⟩
  | _ => exact ⟨0, [], dx, fs, h1, h2⟩
theorem StV.same {H H' : Hp} {b : Int} {xs : List Int} {st : V} {d : Dt} (h : StV H b xs st d) (Z : Same H H') : StV H' b xs st d := by
  cases d with
  | gain y => exact h
  | delay n => obtain ⟨p, e, h⟩ := h; exact ⟨p, e, Z _ _ h⟩
  | echo y n t => obtain ⟨p, e, h⟩ := h; exact ⟨p, e, Z _ _ h⟩
  | back y n => obtain ⟨p, e, h⟩ := h; exact ⟨p, e, Z _ _ h⟩
  | hall y n => obtain ⟨p, e, h⟩ := h; exact ⟨p, e, Z _ _ h⟩
  | swell cs => exact h

theorem fn_weak {k : Nat} {f : Addr} {fd : FuncData} {ps : List Str} {sp sp' : Sp} (F : FnOk P A.wd K mg base CX0 k f fd ps sp) (h : ∀ vs H Q E, sp' vs H Q E → sp vs H Q E) : FnOk P A.wd K mg base CX0 k f fd ps sp' :=
  ⟨fun vs H Q E z => F.len vs H Q E (h _ _ _ _ z), fun A outer s H args us vs Q E hr e0 hb hv z => F.run A outer s H args us vs Q E hr e0 hb hv (h _ _ _ _ z)⟩
theorem getD_at (xs ys : List Int) (i : Nat) : (xs ++ ys).getD (xs.length + i) 0 = ys.getD i 0 := by
  rw [getD_app, if_neg (by omega)]
  congr 1
  omega
theorem outs_gain (y : Rat) (b S : Int) (ss : List Rat) (xs ys : List Int) : outs (.gain y) b S ss xs ys = ys.map (· * y.num) := by
  refine ext0 (by rw [outs_len, List.length_map]) fun i hi => ?_
  rw [outs_len] at hi
  rw [outs_get hi, mapmul_get]
  show (xs ++ ys).getD (xs.length + i) 0 * y.num = _
  rw [getD_at]
theorem outs_delay (n : Nat) (b S : Int) (ss : List Rat) (xs ys : List Int) : outs (.delay n) b S ss xs ys = delL (xs ++ ys) xs.length n := by
  unfold outs delL
  rw [List.length_append, Nat.add_sub_cancel_left]
  rfl
theorem outs_echo (y : Rat) (n t : Nat) (b S : Int) (ss : List Rat) (xs ys : List Int) : outs (.echo y n t) b S ss xs ys = echL (xs.drop (xs.length - n * t) ++ ys) (xs.drop (xs.length - n * t)).length n y.num y.den t (t + 1) := by
  refine ext0 (by rw [outs_len, echL_len, List.length_append]; omega) fun i hi => ?_
  rw [outs_len] at hi
  rw [outs_get hi, echL_get (by rw [List.length_append]; omega)]
  show psum _ _ _ _ _ = _
  refine psum_congr fun m hm => ?_
  have le : m * n ≤ n * t := by
    rw [Nat.mul_comm n t]
    exact Nat.mul_le_mul_right n (by omega)
  show (if m * n ≤ xs.length + i then (xs ++ ys).getD (xs.length + i - m * n) 0 else 0) = _
  rw [delL_trim le, delL_get (by rw [List.length_append]; omega)]
theorem outs_back (y : Rat) (n : Nat) (b S : Int) (ss : List Rat) (xs ys : List Int) : outs (.back y n) b S ss xs ys = sumR (ys.map (· * (y.den : Int))) ((delL (xs ++ ys) xs.length n).map (· * (-y.num))) := by
  refine ext0 (by rw [outs_len, sumR_len, List.length_map, List.length_map, delL_len, List.length_append]; omega) fun i hi => ?_
  rw [outs_len] at hi
  rw [outs_get hi, sumR_get (by rw [List.length_map]; omega), mapmul_get, mapmul_get, delL_get (by rw [List.length_append]; omega)]
  show (xs ++ ys).getD (xs.length + i) 0 * _ + _ = _
  rw [getD_at]
theorem outs_hall (y : Rat) (n : Nat) (b S : Int) (ss : List Rat) (xs ys : List Int) : outs (.hall y n) b S ss xs ys = (hallL y.num y.den b n (hallL y.num y.den b n [] xs) ys).drop xs.length := by
  have l1 := hallL_len y.num y.den b n xs []
  have l2 := hallL_len y.num y.den b n ys (hallL y.num y.den b n [] xs)
  rw [List.length_nil, Nat.zero_add] at l1
  refine ext0 (by rw [outs_len, List.length_drop, l2, l1]; omega) fun i hi => ?_
  rw [outs_len] at hi
  rw [outs_get hi, getD_drop, ← hallL_app]
  rfl
theorem ok_thGain (T : Tx K mg A) : FnOk P A.wd K mg base CX0 2 A.f_Gain_through A.fd_Gain_through ["self", "state", "tops", "bottom"] (spThP A 0) := fn_weak (ok_gthr T) fun vs H Q E h => by
  match vs, h with
  | [.ref o, st, .ref l, .int b], ⟨d, S, ss, xs, ys, hk, hp, ok, hst, hl, lx, ly, b1, bb, by0, q⟩ =>
    cases d with
    | gain y =>
      obtain ⟨p, rfl⟩ := hst
      obtain ⟨dx, _, ho, g, rfl, hg⟩ := hp
      have yb := YOk.b ok
      exact ⟨y.num, y.den, ys, ⟨dx, g, ho, hg⟩, hl, by omega, fun z hz => IntMulOk.of_right (by omega), fun r ou s2 H1 S1 nr no h1 h2 => q r ou _ H1 S1 nr no h1 (by rw [h2, outs_gain]) ⟨s2, rfl⟩⟩
    | _ => simp [Dt.kd] at hk
theorem ok_thDelay (T : Tx K mg A) : FnOk P A.wd K mg base CX0 2 A.f_Delay_through A.fd_Delay_through ["self", "state", "tops", "bottom"] (spThP A 1) := fn_weak (ok_dthr T) fun vs H Q E h => by
  match vs, h with
  | [.ref o, st, .ref l, .int b], ⟨d, S, ss, xs, ys, hk, hp, ok, hst, hl, lx, ly, b1, bb, by0, q⟩ =>
    cases d with
    | delay n =>
      obtain ⟨p, rfl, hs⟩ := hst
      obtain ⟨dx, _, ho, rfl⟩ := hp
      exact ⟨n, _, ys, ⟨dx, ho⟩, hs, hl, by rw [List.length_drop]; omega, by omega, fun r ou s2 H1 S1 nr no h1 h2 h3 => q r ou _ H1 S1 nr no h1 (by rw [h2, outs_delay, delL_trim (Nat.le_refl _)]) ⟨s2, rfl, by rw [h3, drop_trim]⟩⟩
    | _ => simp [Dt.kd] at hk
theorem ok_thEcho (T : Tx K mg A) : FnOk P A.wd K mg base CX0 2 A.f_Echo_through A.fd_Echo_through ["self", "state", "tops", "bottom"] (spThP A 2) := fn_weak (ok_ethr T) fun vs H Q E h => by
  match vs, h with
  | [.ref o, st, .ref l, .int b], ⟨d, S, ss, xs, ys, hk, hp, ok, hst, hl, lx, ly, b1, bb, by0, q⟩ =>
    cases d with
    | echo y n t =>
      obtain ⟨p, rfl, hs⟩ := hst
      obtain ⟨dx, _, ho, g, fa, rfl, hg, hf⟩ := hp
      obtain ⟨oy, n1, n2, t2⟩ := ok
      have yb := oy.b
      refine ⟨y.num, y.den, n, t, _, ys, ⟨dx, g, fa, ho, hg, hf⟩, hs, hl, by rw [List.length_drop]; omega, by omega, by omega, t2, yb.1, yb.2, fun z hz => ?_, fun r ou s2 H1 S1 nr no h1 h2 h3 => q r ou _ H1 S1 nr no h1 (by rw [h2, outs_echo]) ⟨s2, rfl, by rw [h3, drop_trim]⟩⟩
      refine Nat.le_trans (by0 z ?_) (by decide)
      rcases List.mem_append.mp hz with h | h
      · exact List.mem_append_left _ (List.mem_of_mem_drop h)
      · exact List.mem_append_right _ h
    | _ => simp [Dt.kd] at hk
theorem ok_thBack (T : Tx K mg A) : FnOk P A.wd K mg base CX0 2 A.f_Back_through A.fd_Back_through ["self", "state", "tops", "bottom"] (spThP A 3) := fn_weak (ok_bthr T) fun vs H Q E h => by
  match vs, h with
  | [.ref o, st, .ref l, .int b], ⟨d, S, ss, xs, ys, hk, hp, ok, hst, hl, lx, ly, b1, bb, by0, q⟩ =>
    cases d with
    | back y n =>
      obtain ⟨p, rfl, hs⟩ := hst
      obtain ⟨dx, _, ho, g, rfl, hg⟩ := hp
      obtain ⟨oy, n1, n2⟩ := ok
      have yb := oy.b
      have nb := intBits_neg_le yb.1
      exact ⟨dx, g, n, y.num, y.den, _, ys, ho, hg, hs, hl, by rw [List.length_drop]; omega, by omega, fun z hz => IntMulOk.of_right (by omega), fun z hz => IntMulOk.of_right (by omega), fun z hz => IntMulOk.of_right (by omega), IntMulOk.of_left (by decide), fun r ou s2 H1 S1 nr no n2' h1 h2 h3 => q r ou _ H1 S1 nr no h1 (by rw [h2, outs_back, delL_trim (Nat.le_refl _)]) ⟨s2, rfl, by rw [h3, drop_trim]⟩⟩
    | _ => simp [Dt.kd] at hk
theorem ok_thHall (T : Tx K mg A) : FnOk P A.wd K mg base CX0 2 A.f_Hall_through A.fd_Hall_through ["self", "state", "tops", "bottom"] (spThP A 4) := fn_weak (ok_hthr T) fun vs H Q E h => by
  match vs, h with
  | [.ref o, st, .ref l, .int b], ⟨d, S, ss, xs, ys, hk, hp, ok, hst, hl, lx, ly, b1, bb, by0, q⟩ =>
    cases d with
    | hall y n =>
      obtain ⟨p, rfl, hs⟩ := hst
      obtain ⟨dx, _, ho, g, rfl, hg⟩ := hp
      obtain ⟨oy, yl, n1, n2⟩ := ok
      have yb := oy.b
      have dp := y.den_pos
      have l1 := hallL_len y.num y.den b n xs []
      rw [List.length_nil, Nat.zero_add] at l1
      have l2 := hallL_len y.num y.den b n ys (hallL y.num y.den b n [] xs)
      have e : hallL y.num y.den b n (hallL y.num y.den b n [] xs) ys = (hallL y.num y.den b n [] xs).take (xs.length - n) ++ hallL y.num y.den b n ((hallL y.num y.den b n [] xs).drop (xs.length - n)) ys := by
        rw [← hallL_trim, List.take_append_drop]
        rcases Nat.lt_or_ge xs.length n with z | z
        · refine .inr ?_
          rw [show xs.length - n = 0 by omega, List.take_zero]
        · refine .inl ?_
          rw [List.length_drop]
          omega
      have l3 := hallL_len y.num y.den b n ys ((hallL y.num y.den b n [] xs).drop (xs.length - n))
      rw [List.length_drop, l1] at l3
      have lt : ((hallL y.num y.den b n [] xs).take (xs.length - n)).length = xs.length - n := by rw [List.length_take]; omega
      have d1 : ∀ (a c : List Int) (k : Nat), a.length ≤ k → (a ++ c).drop k = c.drop (k - a.length) := fun a c k hk => by
        rw [List.drop_append, List.drop_of_length_le hk, List.nil_append]
      refine ⟨dx, g, n, y.num, y.den, _, ys, ho, hg, hs, hl, by rw [List.length_drop]; omega, by omega, n1, by omega, b1, by omega, by omega, bb, fun r ou s2 H1 S1 nr no h1 h2 h3 => q r ou _ H1 S1 nr no h1 (by
        rw [h2, outs_hall, e, d1 _ _ _ (by omega), lt, List.length_drop, l1]) ⟨s2, rfl, by
        rw [h3, hallL_app, e, d1 _ _ _ (by rw [lt, List.length_append]; omega), lt, l3, List.length_append]
        congr 4
        omega⟩⟩
    | _ => simp [Dt.kd] at hk
theorem ok_swth (T : Tx K mg A) : FnOk P A.wd K mg base CX0 3 A.f_Swell_through A.fd_Swell_through ["self", "state", "tops", "bottom"] (spSwTh A.c_Swell) := by
  have G_Swell_gain_at : FnOk P A.wd K mg base CX0 2 _ _ _ _ := ok_gainat T
  have cl_Swell := T.cl_Swell
  have na_Swell_corners := T.na_Swell_corners
  have na_Swell_shared := T.na_Swell_shared
  have na_Swell_lines := T.na_Swell_lines
  refine T.F_Swell_through.ok sc_Swell_through (fun vs H Q E h => ?_) (fun cdv A' outer s H vs Q E hr h => ?_)
  · match vs, h with
    | [.ref o, .int n0, .ref x, .int _], _ => rfl
  · match vs, h with
    | [.ref o, .int n0, .ref x, .int bt], ⟨ps, cs, ss, S, m0, xs, e0, I, O, CO, L1, L12, hx, ml, xl, xb, k⟩ =>
    subst e0
    have hu := hr.units
    have hr_Swell_gain_at : Room 2 _ := hr.mono (by decide)
    refine ⟨_, (pss_cons (ps_setCZ (i := 4) sc_Swell_through.nd rfl rfl (pi_enum (by rfl) T.z_enumerate (pa_cons (pvF 2) pa_nil) (pk_cons (pvF 1) pk_nil)) (fun _ _ _ _ _ => (pe_op op_mulM (pe_methF (pvF 2) T.cl_Swell T.me_Swell_gain_at G_Swell_gain_at hr_Swell_gain_at T.b_Swell_gain_at .nil pass0 (pa_cons (pvF 0) pa_nil)) (pvF 1))) (compS2 (sc := defScope s_Swell_through) (N := ["self", "state", "tops", "bottom", "out"]) rfl rfl (by decide +kernel)) rfl)
      (pss_one (ps_ret (pe_tupS (pa_cons (pvF 4) (pa_cons (pe_op op_addM (pvF 1) (pe_callB call_lenM (by rfl) T.z_len boot_len (pa_cons (pvF 2) pa_nil))) pa_nil)))))), ?_⟩
    walk_at "rd*"
    refine ⟨by omega, by omega, ?_⟩
    intro D H2 n2 S2 h2
    refine compZW_enum (xs := xs.map V.int) (fun i zs H' => Same H H' ∧ H' D = some (.lst zs) ∧ zs = ((List.range i).map fun j => gatS S ((m0 + j : Nat) : Int) cs ss * xs.getD j 0).map V.int) ⟨S2, h2, rfl⟩ (by rw [List.length_map, sizeLine_eq]; omega) ?_ ?_ ?_
    · intro i zs H' hi ⟨S', h', ez⟩
      exact ⟨h', SqL.of (S' _ _ hx), by rw [ez, List.length_map, List.length_map, List.length_range]⟩
    · intro i x' zs H' p H'' hx' ⟨S', h', ez⟩ np S'' h''
      rw [List.getElem?_map] at hx'
      obtain ⟨xi, hxi, rfl⟩ := Option.map_eq_some_iff.mp hx'
      have hi := (List.getElem?_eq_some_iff.mp hxi).1
      have SS := S'.trans S''
      have I' := I.same SS
      have hD' := S'' _ _ h'
      have xbi := xb xi (List.mem_of_getElem? hxi)
      obtain ⟨dx, ct, ln, us, ho, _⟩ := id I'
      unfold swF at ho
      clear hx h2 h'
      walk_at "rd*"
      refine ⟨ps, cs, ss, S, I', O, CO, L1, L12, by omega, by omega, fun m c s' LA bg => ?_⟩
      refine ⟨IntMulOk.of_le bg xbi (by decide), fun H4 B4 h4 => ⟨SS.step n2 B4, h4, ?_⟩⟩
      rw [List.range_succ, List.map_append, List.map_append, ← ez]
      have e1 := gat_eq (S := S) CO.2 LA
      have e2 : xs.getD i 0 = xi := by rw [List.getD_eq_getElem?_getD, hxi]; rfl
      show _ = _ ++ [V.int (gatS S ((m0 + i : Nat) : Int) cs ss * xs.getD i 0)]
      rw [e2, Int.natCast_add, e1]
    · intro zs H3 ⟨S3, h3, ez⟩
      rw [List.length_map] at ez
      have hx3 := S3 _ _ hx
      clear hx h2
      walk_at "rd*"
      refine fun r H4 n4 S4 h4 => k r D H4 (S3.trans S4) (S3.free n4) n2 (by rw [h4, Int.natCast_add]) (S4 _ _ (by rw [h3, ez]))
theorem ok_thSwell (T : Tx K mg A) : FnOk P A.wd K mg base CX0 3 A.f_Swell_through A.fd_Swell_through ["self", "state", "tops", "bottom"] (spThP A 5) := fn_weak (ok_swth T) fun vs H Q E h => by
  match vs, h with
  | [.ref o, st, .ref l, .int b], ⟨d, S, ss, xs, ys, hk, hp, ok, hst, hl, lx, ly, b1, bb, by0, q⟩ =>
    cases d with
    | swell cs =>
      have hst : st = V.int (xs.length : Int) := hst
      subst hst
      obtain ⟨dx, _, ho, ct, ln, us, ps, rfl, hct, hln, TP, sok, R⟩ := hp
      have ok : CsOk cs := ok
      refine ⟨ps, cs, ss, S, xs.length, ys, rfl, ⟨dx, ct, ln, us, ho, hct, hln, TP, R⟩, sok, CsOk.crn ok, ok.2.2.1, ok.2.2.2, hl, lx, ly, fun y hy => by0 y (List.mem_append_right _ hy), fun r ou H1 S1 nr no h1 h2 => q r ou _ H1 S1 nr no h1 ?_ (by show _ = V.int _; rw [List.length_append])⟩
      rw [h2]
      refine congrArg (fun z => some (HO.lst (List.map V.int z))) ?_
      unfold outs
      refine List.map_congr_left fun i _ => ?_
      show _ = gatS S ((xs.length + i : Nat) : Int) cs ss * (xs ++ ys).getD (xs.length + i) 0
      rw [getD_at]
    | _ => simp [Dt.kd] at hk
theorem ok_grGain (T : Tx K mg A) : FnOk P A.wd K mg base CX0 1 A.f_Gain_grain A.fd_Gain_grain ["self"] (spGrP A 0) := fn_weak (ok_ggrain T) fun vs H Q E h => by
  match vs, h with
  | [.ref o], ⟨d, S, ss, hk, hp, q⟩ =>
    cases d with
    | gain y =>
      obtain ⟨dx, _, ho, g, rfl, hg⟩ := hp
      exact ⟨y.num, y.den, ⟨dx, g, ho, hg⟩, q⟩
    | _ => simp [Dt.kd] at hk
theorem ok_grEcho (T : Tx K mg A) : FnOk P A.wd K mg base CX0 1 A.f_Echo_grain A.fd_Echo_grain ["self"] (spGrP A 2) := fn_weak (ok_egrain T) fun vs H Q E h => by
  match vs, h with
  | [.ref o], ⟨d, S, ss, hk, hp, q⟩ =>
    cases d with
    | echo y n t =>
      obtain ⟨dx, _, ho, g, fa, rfl, hg, hf⟩ := hp
      exact ⟨y.num, y.den, n, t, ⟨dx, g, fa, ho, hg, hf⟩, q⟩
    | _ => simp [Dt.kd] at hk
theorem ok_grBack (T : Tx K mg A) : FnOk P A.wd K mg base CX0 1 A.f_Back_grain A.fd_Back_grain ["self"] (spGrP A 3) := fn_weak (ok_bgrain T) fun vs H Q E h => by
  match vs, h with
  | [.ref o], ⟨d, S, ss, hk, hp, q⟩ =>
    cases d with
    | back y n =>
      obtain ⟨dx, _, ho, g, rfl, hg⟩ := hp
      exact ⟨dx, g, n, y.num, y.den, ho, hg, q⟩
    | _ => simp [Dt.kd] at hk
theorem ok_grSwell (T : Tx K mg A) : FnOk P A.wd K mg base CX0 1 A.f_Swell_grain A.fd_Swell_grain ["self"] (spGrP A 5) := fn_weak (ok_swgrain T) fun vs H Q E h => by
  match vs, h with
  | [.ref o], ⟨d, S, ss, hk, hp, q⟩ =>
    cases d with
    | swell cs =>
      obtain ⟨dx, _, ho, ct, ln, us, ps, rfl, hct, hln, TP, sok, R⟩ := hp
      exact ⟨ps, cs, ss, S, ⟨dx, ct, ln, us, ho, hct, hln, TP, R⟩, q⟩
    | _ => simp [Dt.kd] at hk
theorem st_fresh {d : Dt} (hk : d.kd ≠ 5) {H : Hp} {p : Addr} (h : H p = some (.tup [])) (b : Int) : StV H b [] (.ref p) d := by
  cases d with
  | swell => exact absurd rfl hk
  | gain => exact ⟨p, rfl⟩
  | delay => exact ⟨p, rfl, by rw [List.drop_nil]; exact h⟩
  | echo => exact ⟨p, rfl, by rw [List.drop_nil]; exact h⟩
  | back => exact ⟨p, rfl, by rw [List.drop_nil]; exact h⟩
  | hall => exact ⟨p, rfl, by rw [hallL, List.drop_nil]; exact h⟩

theorem ok_rg (T : Tx K mg A) : FnOk P A.wd K mg base CX0 4 A.f_read_gain A.fd_read_gain ["text"] spRG := by
  have G_read_fraction : FnOk P A.wd K mg base CX0 3 _ _ _ _ := ok_read T
  refine T.F_read_gain.ok sc_read_gain (fun vs H Q E h => ?_) (fun cdv A' outer s H vs Q E hr h => ?_)
  · match vs, h with
    | [.str x], _ => rfl
  · match vs, h with
    | [.str x], ⟨y, hx, oy, k⟩ =>
    subst hx
    have hu := hr.units
    have hr_read_fraction : Room 3 _ := hr.mono (by decide)
    refine ⟨_, (pss_cons (ps_tryN (ps_set (i := 1) sc_read_gain.nd rfl (Or.inl rfl) (pe_call G_read_fraction hr_read_fraction (by rfl) T.m_read_fraction T.F_read_fraction.kp T.b_read_fraction .nil pass0 (pa_cons (pvF 0) pa_nil))))
      (pss_cons (ps_if (pw_or (pt_cmpF of_gt (pe_callB call_absF (by rfl) T.z_abs boot_abs (pa_cons (pe_ix ix_M (pvF 1) pe_int (fun _ _ => rfl)) pa_nil)) (pe_glob (v := .int 1000) (by rfl) T.mk_MOST_GAIN T.rk_MOST_GAIN) (nomark _)) (pw_or1 (pt_cmpF of_gt (pe_ix ix_M (pvF 1) pe_int (fun _ _ => rfl)) (pe_glob (v := .int 1000) (by rfl) T.mk_MOST_GAIN T.rk_MOST_GAIN) (nomark _)))).pt
      (pss_one ps_never)
      pss_nil)
      (pss_one (ps_ret (pvF 1))))), ?_⟩
    walk_at "rd"
    refine ⟨y.num, (y.den : Int), good_fW oy, ?_⟩
    rintro _ H1 ⟨o, rfl, n1, S1, h1⟩
    have y1 : ¬ 1000 < (y.num.natAbs : Int) := by have := oy.1; omega
    have y2 : ¬ 1000 < (y.den : Int) := by have := oy.2; omega
    walk_at "rd*"
    exact k _ _ ⟨o, rfl, n1, S1, h1⟩
theorem ok_rn (T : Tx K mg A) : FnOk P A.wd K mg base CX0 3 A.f_read_number A.fd_read_number ["text", "least", "most"] spRN := by
  have G_whole_of : FnOk P A.wd K mg base CX0 2 _ _ _ _ := ok_who T
  refine T.F_read_number.ok sc_read_number (fun vs H Q E h => ?_) (fun cdv A' outer s H vs Q E hr h => ?_)
  · match vs, h with
    | [.str x, .int a, .int b], _ => rfl
  · match vs, h with
    | [.str x, .int a, .int b], ⟨n, hx, hn, h1, h2, q⟩ =>
    have hu := hr.units
    have hr_whole_of : Room 2 _ := hr.mono (by decide)
    refine ⟨_, (pss_cons (ps_set (i := 3) sc_read_number.nd rfl (Or.inl rfl) (pe_call G_whole_of hr_whole_of (by rfl) T.m_whole_of T.F_whole_of.kp T.b_whole_of .nil pass0 (pa_cons (pvF 0) pa_nil)))
      (pss_cons (ps_if (pw_or (pt_cmpF op_isN (pvF 3) pe_non (nomark _)) (pw_or (pt_cmpF of_lt (pvF 3) (pvF 1) (nomark _)) (pw_or1 (pt_cmpF of_gt (pvF 3) (pvF 2) (nomark _))))).pt
      (pss_one ps_never)
      pss_nil)
      (pss_one (ps_ret (pvF 3))))), ?_⟩
    walk_at "rd"
    refine ⟨n, hx, hn, ?_⟩
    have z1 : ¬ (n : Int) < a := by omega
    have z2 : ¬ b < (n : Int) := by omega
    walk_at "rd*"
theorem ok_rm (T : Tx K mg A) : FnOk P A.wd K mg base CX0 4 A.f_read_many A.fd_read_many ["text"] spRM := by
  have G_read_number : FnOk P A.wd K mg base CX0 3 _ _ _ _ := ok_rn T
  refine T.F_read_many.ok sc_read_many (fun vs H Q E h => ?_) (fun cdv A' outer s H vs Q E hr h => ?_)
  · match vs, h with
    | [.str x], _ => rfl
  · match vs, h with
    | [.str x], ⟨n, hx, n1, n2, q⟩ =>
    subst hx
    have hu := hr.units
    have hr_read_number : Room 3 _ := hr.mono (by decide)
    refine ⟨_, (pss_one (ps_ret (pe_call G_read_number hr_read_number (by rfl) T.m_read_number T.F_read_number.kp T.b_read_number .nil pass0 (pa_cons (pvF 0) (pa_cons pe_int (pa_cons (pe_glob (v := .int 1000) (by rfl) T.mk_MOST_MANY T.rk_MOST_MANY) pa_nil)))))), ?_⟩
    walk_at "rd"
    exact ⟨n, sg_nW n, by omega, by omega, by omega, q⟩
theorem ok_cc (T : Tx K mg A) : FnOk P A.wd K mg base CX0 1 A.f_check_count A.fd_check_count ["values", "count"] spCC := by
  refine T.F_check_count.ok sc_check_count (fun vs H Q E h => ?_) (fun cdv A' outer s H vs Q E hr h => ?_)
  · match vs, h with
    | [.ref l, .int c], _ => rfl
  · match vs, h with
    | [.ref l, .int c], ⟨xs, hl, e, q⟩ =>
    have hu := hr.units
    refine ⟨_, (pss_one (ps_if (pt_cmpF (op_neM hu) (pe_callB call_lenM (by rfl) T.z_len boot_len (pa_cons (pvF 0) pa_nil)) (pvF 1) (nomark _))
      (pss_one ps_never)
      pss_nil)), ?_⟩
    walk_at "rd*"
theorem ok_gain_of (T : Tx K mg A) : FnOk P A.wd K mg base CX0 6 A.f_gain_of A.fd_gain_of ["values"] (spRd A 0) := by
  have G_check_count : FnOk P A.wd K mg base CX0 1 _ _ _ _ := ok_cc T
  have G_read_gain : FnOk P A.wd K mg base CX0 4 _ _ _ _ := ok_rg T
  have G_Gain_init : FnOk P A.wd K mg base CX0 1 _ _ _ _ := ok_iGain T
  have cl_Gain := T.cl_Gain
  have na_Gain_gain := T.na_Gain_gain
  refine T.F_gain_of.ok sc_gain_of (fun vs H Q E h => ?_) (fun cdv A' outer s H vs Q E hr h => ?_)
  · match vs, h with
    | [.ref l], _ => rfl
  · match vs, h with
    | [.ref l], ⟨d, hk, ok, hl, q⟩ =>
    cases d with
    | gain y =>
      have hu := hr.units
      have hr_check_count : Room 1 _ := hr.mono (by decide)
      have hr_read_gain : Room 4 _ := hr.mono (by decide)
      have hr_Gain_init : Room 2 _ := hr.mono (by decide)
      replace hl : H l = some (.lst [.str (fW y)]) := hl
      refine ⟨_, (pss_cons (ps_expr (pe_call G_check_count hr_check_count (by rfl) T.m_check_count T.F_check_count.kp T.b_check_count .nil pass0 (pa_cons (pvF 0) (pa_cons pe_int pa_nil))))
      (pss_one (ps_ret (pe_makeS T.M_Gain G_Gain_init hr_Gain_init (by rfl) T.mc_Gain T.b_Gain_init .nil pass0 (pa_cons (pe_call G_read_gain hr_read_gain (by rfl) T.m_read_gain T.F_read_gain.kp T.b_read_gain .nil pass0 (pa_cons (pe_ix ix_M (pvF 0) pe_int (fun _ _ => rfl)) pa_nil)) pa_nil))))), ?_⟩
      walk_at "rd"
      refine ⟨_, hl, rfl, ?_⟩
      walk_at "rd*"
      refine ⟨y, rfl, ok, ?_⟩
      rintro _ H1 ⟨g, rfl, n1, S1, h1⟩
      walk_at "rd"
      intro x dx H2 n2 n3 nx S2 hdx hx
      refine ⟨dx, hx, fun H3 B3 h3 => ?_⟩
      rw [asNew]
      refine ⟨rfl, ?_⟩
      have gx : g ≠ x := fun e => by rw [e] at h1; rw [h1] at n2; cases n2
      refine q x H3 (S1.free n2) (fun b u e => B3 _ _ (fun z => by rw [z] at e; rw [S1 _ _ e] at n2; cases n2) (S2 _ _ (S1 _ _ e))) ⟨dx, _, h3, g, rfl, B3 _ _ gx (S2 _ _ h1)⟩
    | _ => simp [Dt.kd] at hk
theorem ok_delay_of (T : Tx K mg A) : FnOk P A.wd K mg base CX0 6 A.f_delay_of A.fd_delay_of ["values"] (spRd A 1) := by
  have G_check_count : FnOk P A.wd K mg base CX0 1 _ _ _ _ := ok_cc T
  have G_read_number : FnOk P A.wd K mg base CX0 3 _ _ _ _ := ok_rn T
  have G_Delay_init : FnOk P A.wd K mg base CX0 1 _ _ _ _ := ok_iDelay T
  have cl_Delay := T.cl_Delay
  have na_Delay_many := T.na_Delay_many
  refine T.F_delay_of.ok sc_delay_of (fun vs H Q E h => ?_) (fun cdv A' outer s H vs Q E hr h => ?_)
  · match vs, h with
    | [.ref l], _ => rfl
  · match vs, h with
    | [.ref l], ⟨d, hk, ok, hl, q⟩ =>
    cases d with
    | delay n =>
      have hu := hr.units
      have hr_check_count : Room 1 _ := hr.mono (by decide)
      have hr_read_number : Room 3 _ := hr.mono (by decide)
      have hr_Delay_init : Room 2 _ := hr.mono (by decide)
      have ok : n ≤ 1000 := ok
      replace hl : H l = some (.lst [.str (nW n)]) := hl
      refine ⟨_, (pss_cons (ps_expr (pe_call G_check_count hr_check_count (by rfl) T.m_check_count T.F_check_count.kp T.b_check_count .nil pass0 (pa_cons (pvF 0) (pa_cons pe_int pa_nil))))
      (pss_one (ps_ret (pe_makeS T.M_Delay G_Delay_init hr_Delay_init (by rfl) T.mc_Delay T.b_Delay_init .nil pass0 (pa_cons (pe_call G_read_number hr_read_number (by rfl) T.m_read_number T.F_read_number.kp T.b_read_number .nil pass0 (pa_cons (pe_ix ix_M (pvF 0) pe_int (fun _ _ => rfl)) (pa_cons pe_int (pa_cons (pe_glob (v := .int 1000) (by rfl) T.mk_MOST_MANY T.rk_MOST_MANY) pa_nil)))) pa_nil))))), ?_⟩
      walk_at "rd"
      refine ⟨_, hl, rfl, ?_⟩
      walk_at "rd*"
      refine ⟨n, sg_nW n, by omega, by omega, by omega, ?_⟩
      intro x dx H2 n2 n3 nx S2 hdx hx
      refine ⟨dx, hx, fun H3 B3 h3 => ?_⟩
      rw [asNew]
      refine ⟨rfl, ?_⟩
      exact q x H3 n2 (fun b u e => B3 _ _ (fun z => by rw [z] at e; rw [e] at n2; cases n2) (S2 _ _ e)) ⟨dx, _, h3, rfl⟩
    | _ => simp [Dt.kd] at hk
theorem ok_echo_of (T : Tx K mg A) : FnOk P A.wd K mg base CX0 6 A.f_echo_of A.fd_echo_of ["values"] (spRd A 2) := by
  have G_check_count : FnOk P A.wd K mg base CX0 1 _ _ _ _ := ok_cc T
  have G_read_gain : FnOk P A.wd K mg base CX0 4 _ _ _ _ := ok_rg T
  have G_read_many : FnOk P A.wd K mg base CX0 4 _ _ _ _ := ok_rm T
  have G_read_number : FnOk P A.wd K mg base CX0 3 _ _ _ _ := ok_rn T
  have G_Echo_init : FnOk P A.wd K mg base CX0 2 _ _ _ _ := ok_einit T
  have cl_Echo := T.cl_Echo
  have na_Echo_gain := T.na_Echo_gain
  have na_Echo_many := T.na_Echo_many
  have na_Echo_turns := T.na_Echo_turns
  have na_Echo_factors := T.na_Echo_factors
  have na_Echo_factor_bottom := T.na_Echo_factor_bottom
  refine T.F_echo_of.ok sc_echo_of (fun vs H Q E h => ?_) (fun cdv A' outer s H vs Q E hr h => ?_)
  · match vs, h with
    | [.ref l], _ => rfl
  · match vs, h with
    | [.ref l], ⟨d, hk, ok, hl, q⟩ =>
    cases d with
    | echo y n t =>
      have hu := hr.units
      have hr_check_count : Room 1 _ := hr.mono (by decide)
      have hr_read_gain : Room 4 _ := hr.mono (by decide)
      have hr_read_many : Room 4 _ := hr.mono (by decide)
      have hr_read_number : Room 3 _ := hr.mono (by decide)
      have hr_Echo_init : Room 3 _ := hr.mono (by decide)
      obtain ⟨oy, na, nb, tb⟩ := ok
      replace hl : H l = some (.lst [.str (fW y), .str (nW n), .str (nW t)]) := hl
      refine ⟨_, (pss_cons (ps_expr (pe_call G_check_count hr_check_count (by rfl) T.m_check_count T.F_check_count.kp T.b_check_count .nil pass0 (pa_cons (pvF 0) (pa_cons pe_int pa_nil))))
      (pss_one (ps_ret (pe_makeS T.M_Echo G_Echo_init hr_Echo_init (by rfl) T.mc_Echo T.b_Echo_init .nil pass0 (pa_cons (pe_call G_read_gain hr_read_gain (by rfl) T.m_read_gain T.F_read_gain.kp T.b_read_gain .nil pass0 (pa_cons (pe_ix ix_M (pvF 0) pe_int (fun _ _ => rfl)) pa_nil)) (pa_cons (pe_call G_read_many hr_read_many (by rfl) T.m_read_many T.F_read_many.kp T.b_read_many .nil pass0 (pa_cons (pe_ix ix_M (pvF 0) pe_int (fun _ _ => rfl)) pa_nil)) (pa_cons (pe_call G_read_number hr_read_number (by rfl) T.m_read_number T.F_read_number.kp T.b_read_number .nil pass0 (pa_cons (pe_ix ix_M (pvF 0) pe_int (fun _ _ => rfl)) (pa_cons pe_int (pa_cons (pe_glob (v := .int 16) (by rfl) T.mk_MOST_TURNS T.rk_MOST_TURNS) pa_nil)))) pa_nil))))))), ?_⟩
      walk_at "rd"
      refine ⟨_, hl, rfl, ?_⟩
      walk_at "rd*"
      refine ⟨y, rfl, oy, ?_⟩
      rintro _ H1 ⟨g, rfl, n1, S1, h1⟩
      have hl1 := S1 _ _ hl
      clear hl
      walk_at "rd*"
      refine ⟨n, rfl, na, nb, t, sg_nW t, by omega, by omega, by omega, ?_⟩
      intro x dx H2 n2 n3 nx S2 hdx hx
      refine ⟨dx, n, t, y.num, (y.den : Int), rfl, rfl, tb, oy.b.1, oy.b.2, S2 _ _ h1, hx, fun fa H3 B3 nf h3 hf => ?_⟩
      rw [asNew]
      refine ⟨rfl, ?_⟩
      have gx : g ≠ x := fun e => by rw [e] at h1; rw [h1] at n2; cases n2
      exact q x H3 (S1.free n2) (fun b u e => B3 _ _ (fun z => by rw [z] at e; rw [S1 _ _ e] at n2; cases n2) (S2 _ _ (S1 _ _ e))) ⟨dx, _, h3, g, fa, rfl, B3 _ _ gx (S2 _ _ h1), hf⟩
    | _ => simp [Dt.kd] at hk
theorem ok_back_of (T : Tx K mg A) : FnOk P A.wd K mg base CX0 6 A.f_back_of A.fd_back_of ["values"] (spRd A 3) := by
  have G_check_count : FnOk P A.wd K mg base CX0 1 _ _ _ _ := ok_cc T
  have G_read_gain : FnOk P A.wd K mg base CX0 4 _ _ _ _ := ok_rg T
  have G_read_many : FnOk P A.wd K mg base CX0 4 _ _ _ _ := ok_rm T
  have G_Back_init : FnOk P A.wd K mg base CX0 1 _ _ _ _ := ok_iBack T
  have cl_Back := T.cl_Back
  have na_Back_gain := T.na_Back_gain
  have na_Back_many := T.na_Back_many
  refine T.F_back_of.ok sc_back_of (fun vs H Q E h => ?_) (fun cdv A' outer s H vs Q E hr h => ?_)
  · match vs, h with
    | [.ref l], _ => rfl
  · match vs, h with
    | [.ref l], ⟨d, hk, ok, hl, q⟩ =>
    cases d with
    | back y n =>
      have hu := hr.units
      have hr_check_count : Room 1 _ := hr.mono (by decide)
      have hr_read_gain : Room 4 _ := hr.mono (by decide)
      have hr_read_many : Room 4 _ := hr.mono (by decide)
      have hr_Back_init : Room 2 _ := hr.mono (by decide)
      obtain ⟨oy, na, nb⟩ := ok
      replace hl : H l = some (.lst [.str (fW y), .str (nW n)]) := hl
      refine ⟨_, (pss_cons (ps_expr (pe_call G_check_count hr_check_count (by rfl) T.m_check_count T.F_check_count.kp T.b_check_count .nil pass0 (pa_cons (pvF 0) (pa_cons pe_int pa_nil))))
      (pss_one (ps_ret (pe_makeS T.M_Back G_Back_init hr_Back_init (by rfl) T.mc_Back T.b_Back_init .nil pass0 (pa_cons (pe_call G_read_gain hr_read_gain (by rfl) T.m_read_gain T.F_read_gain.kp T.b_read_gain .nil pass0 (pa_cons (pe_ix ix_M (pvF 0) pe_int (fun _ _ => rfl)) pa_nil)) (pa_cons (pe_call G_read_many hr_read_many (by rfl) T.m_read_many T.F_read_many.kp T.b_read_many .nil pass0 (pa_cons (pe_ix ix_M (pvF 0) pe_int (fun _ _ => rfl)) pa_nil)) pa_nil)))))), ?_⟩
      walk_at "rd"
      refine ⟨_, hl, rfl, ?_⟩
      walk_at "rd*"
      refine ⟨y, rfl, oy, ?_⟩
      rintro _ H1 ⟨g, rfl, n1, S1, h1⟩
      have hl1 := S1 _ _ hl
      clear hl
      walk_at "rd*"
      refine ⟨n, rfl, na, nb, ?_⟩
      intro x dx H2 n2 n3 nx S2 hdx hx
      refine ⟨dx, hx, fun H3 B3 h3 => ?_⟩
      rw [asNew]
      refine ⟨rfl, ?_⟩
      have gx : g ≠ x := fun e => by rw [e] at h1; rw [h1] at n2; cases n2
      exact q x H3 (S1.free n2) (fun b u e => B3 _ _ (fun z => by rw [z] at e; rw [S1 _ _ e] at n2; cases n2) (S2 _ _ (S1 _ _ e))) ⟨dx, _, h3, g, rfl, B3 _ _ gx (S2 _ _ h1)⟩
    | _ => simp [Dt.kd] at hk
theorem ok_hall_of (T : Tx K mg A) : FnOk P A.wd K mg base CX0 6 A.f_hall_of A.fd_hall_of ["values"] (spRd A 4) := by
  have G_check_count : FnOk P A.wd K mg base CX0 1 _ _ _ _ := ok_cc T
  have G_read_gain : FnOk P A.wd K mg base CX0 4 _ _ _ _ := ok_rg T
  have G_read_many : FnOk P A.wd K mg base CX0 4 _ _ _ _ := ok_rm T
  have G_size_of : FnOk P A.wd K mg base CX0 1 _ _ _ _ := ok_size T
  have G_is_under : FnOk P A.wd K mg base CX0 1 _ _ _ _ := ok_under T
  have G_Hall_init : FnOk P A.wd K mg base CX0 1 _ _ _ _ := ok_iHall T
  have cl_Hall := T.cl_Hall
  have na_Hall_gain := T.na_Hall_gain
  have na_Hall_many := T.na_Hall_many
  refine T.F_hall_of.ok sc_hall_of (fun vs H Q E h => ?_) (fun cdv A' outer s H vs Q E hr h => ?_)
  · match vs, h with
    | [.ref l], _ => rfl
  · match vs, h with
    | [.ref l], ⟨d, hk, ok, hl, q⟩ =>
    cases d with
    | hall y n =>
      have hu := hr.units
      have hr_check_count : Room 1 _ := hr.mono (by decide)
      have hr_read_gain : Room 4 _ := hr.mono (by decide)
      have hr_read_many : Room 4 _ := hr.mono (by decide)
      have hr_size_of : Room 1 _ := hr.mono (by decide)
      have hr_is_under : Room 1 _ := hr.mono (by decide)
      have hr_Hall_init : Room 2 _ := hr.mono (by decide)
      obtain ⟨oy, yl, na, nb⟩ := ok
      replace hl : H l = some (.lst [.str (fW y), .str (nW n)]) := hl
      refine ⟨_, (pss_cons (ps_expr (pe_call G_check_count hr_check_count (by rfl) T.m_check_count T.F_check_count.kp T.b_check_count .nil pass0 (pa_cons (pvF 0) (pa_cons pe_int pa_nil))))
      (pss_cons (ps_set (i := 1) sc_hall_of.nd rfl (Or.inl rfl) (pe_call G_read_gain hr_read_gain (by rfl) T.m_read_gain T.F_read_gain.kp T.b_read_gain .nil pass0 (pa_cons (pe_ix ix_M (pvF 0) pe_int (fun _ _ => rfl)) pa_nil)))
      (pss_cons (ps_if (pt_not (pt_valF (pe_call G_is_under hr_is_under (by rfl) T.m_is_under T.F_is_under.kp T.b_is_under .nil pass0 (pa_cons (pe_call G_size_of hr_size_of (by rfl) T.m_size_of T.F_size_of.kp T.b_size_of .nil pass0 (pa_cons (pvF 1) pa_nil)) (pa_cons (pe_tupS (pa_cons pe_int (pa_cons pe_int pa_nil))) pa_nil)))))
      (pss_one ps_never)
      pss_nil)
      (pss_one (ps_ret (pe_makeS T.M_Hall G_Hall_init hr_Hall_init (by rfl) T.mc_Hall T.b_Hall_init .nil pass0 (pa_cons (pvF 1) (pa_cons (pe_call G_read_many hr_read_many (by rfl) T.m_read_many T.F_read_many.kp T.b_read_many .nil pass0 (pa_cons (pe_ix ix_M (pvF 0) pe_int (fun _ _ => rfl)) pa_nil)) pa_nil)))))))), ?_⟩
      walk_at "rd"
      refine ⟨_, hl, rfl, ?_⟩
      walk_at "rd*"
      refine ⟨y, rfl, oy, ?_⟩
      rintro _ H1 ⟨g, rfl, n1, S1, h1⟩
      have hl1 := S1 _ _ hl
      clear hl
      walk_at "rd"
      refine ⟨y, h1, ?_⟩
      rintro _ H2 ⟨a, rfl, n2, S2, h2⟩
      walk_at "rd"
      refine fun u H3 n3 S3 h3 => ?_
      have h3' : H3 u = some (.tup (ratV 1)) := h3
      have S13 := S2.trans S3
      have b1 := oy.b.1
      have b2 := oy.b.2
      have ab := abs_bits b1
      have hl3 := S13 _ _ hl1
      clear h3 hl1
      have un : (Rat.abs y).num * ((1 : Rat).den : Int) < (1 : Rat).num * ((Rat.abs y).den : Int) := by
        rw [abs_num, abs_den]
        show (y.num.natAbs : Int) * 1 < 1 * (y.den : Int)
        omega
      walk_at "rd"
      refine ⟨Rat.abs y, 1, ⟨S3 _ _ h2, h3', by omega, by rw [abs_den]; omega, by decide, by decide⟩, ?_⟩
      walk_at "rd*"
      refine ⟨n, rfl, na, nb, ?_⟩
      intro x dx H4 n4 n5 nx S4 hdx hx
      refine ⟨dx, hx, fun H5 B5 h5 => ?_⟩
      rw [asNew]
      refine ⟨rfl, ?_⟩
      have h1' := S13 _ _ h1
      have S03 := S1.trans S13
      have gx : g ≠ x := fun e => by rw [e] at h1'; rw [h1'] at n4; cases n4
      exact q x H5 (S03.free n4) (fun b u e => B5 _ _ (fun z => by rw [z] at e; rw [S03 _ _ e] at n4; cases n4) (S4 _ _ (S03 _ _ e))) ⟨dx, _, h5, g, rfl, B5 _ _ gx (S4 _ _ h1')⟩
    | _ => simp [Dt.kd] at hk

theorem Crn.sameL {l : Addr} {H H' : Hp} {ps : List Addr} {cs : List (Int × Rat)} {xs : List V} (h : Crn H ps cs) (hl : H l = some (.lst xs)) (S : SameB l H H') : Crn H' ps cs :=
  ⟨h.1, fun i p c e1 e2 => (h.2 i p c e1 e2).elim fun g z => ⟨g, S _ _ (fun e => by have := z.1; rw [e, hl] at this; cases this) z.1, S _ _ (fun e => by have := z.2; rw [e, hl] at this; cases this) z.2⟩⟩
theorem Crn.nil {H : Hp} : Crn H [] [] := ⟨rfl, fun i p r e => by simp at e⟩
theorem Crn.snoc {H : Hp} {ps : List Addr} {cs : List (Int × Rat)} {p g : Addr} {a : Int} {y : Rat} (h : Crn H ps cs) (hp : H p = some (.tup [.int a, .ref g])) (hg : H g = some (.tup (ratV y))) : Crn H (ps ++ [p]) (cs ++ [(a, y)]) := by
  refine ⟨by rw [List.length_append, List.length_append, h.1]; rfl, fun i p' c' e1 e2 => ?_⟩
  by_cases hi : i < ps.length
  · rw [List.getElem?_append_left hi] at e1
    rw [List.getElem?_append_left (by rw [← h.1]; exact hi)] at e2
    exact h.2 i p' c' e1 e2
  · rw [List.getElem?_append_right (by omega)] at e1
    rw [List.getElem?_append_right (by rw [← h.1]; omega)] at e2
    rw [← h.1] at e2
    cases hz : i - ps.length with
    | zero =>
      rw [hz] at e1 e2
      simp at e1 e2
      subst e1 e2
      exact ⟨g, hp, hg⟩
    | succ n =>
      rw [hz] at e1
      simp at e1

theorem ok_rc (T : Tx K mg A) : FnOk P A.wd K mg base CX0 5 A.f_read_corner A.fd_read_corner ["text"] spRC := by
  have G_read_gain : FnOk P A.wd K mg base CX0 4 _ _ _ _ := ok_rg T
  have G_read_number : FnOk P A.wd K mg base CX0 3 _ _ _ _ := ok_rn T
  refine T.F_read_corner.ok sc_read_corner (fun vs H Q E h => ?_) (fun cdv A' outer s H vs Q E hr h => ?_)
  · match vs, h with
    | [.str x], _ => rfl
  · match vs, h with
    | [.str x], ⟨c, hx, c0, c1, oy, q⟩ =>
    subst hx
    have hu := hr.units
    have hr_read_gain : Room 4 _ := hr.mono (by decide)
    have hr_read_number : Room 3 _ := hr.mono (by decide)
    have sp := split_corner (c := c)
    have cl := cW_len (c := c) (by omega) oy.b.1 oy.b.2
    have hs : sizeLine = 16777216 := sizeLine_eq
    have d1 : ((⟨#[61]⟩ : Str).length == 0) = false := rfl
    have d2 : (cW c).length ≤ sizeLine := by omega
    refine ⟨_, (pss_cons (ps_set (i := 1) sc_read_corner.nd rfl (Or.inl rfl) (pe_bmF isStrV_ty PySem.F.plainAttrs_str PySem.F.slot_str_split PySem.F.type_str_split mt_split (pvF 0) (pa_cons pe_str pa_nil)))
      (pss_cons (ps_if (pt_cmpF (op_neM hu) (pe_callB call_lenM (by rfl) T.z_len boot_len (pa_cons (pvF 1) pa_nil)) pe_int (nomark _))
      (pss_one ps_never)
      pss_nil)
      (pss_one (ps_ret (pe_tupS (pa_cons (pe_call G_read_number hr_read_number (by rfl) T.m_read_number T.F_read_number.kp T.b_read_number .nil pass0 (pa_cons (pe_ix ix_M (pvF 1) pe_int (fun _ _ => rfl)) (pa_cons pe_int (pa_cons (pe_glob (v := .int 100000) (by rfl) T.mk_MOST_AT T.rk_MOST_AT) pa_nil)))) (pa_cons (pe_call G_read_gain hr_read_gain (by rfl) T.m_read_gain T.F_read_gain.kp T.b_read_gain .nil pass0 (pa_cons (pe_ix ix_M (pvF 1) pe_int (fun _ _ => rfl)) pa_nil)) pa_nil))))))), ?_⟩
    rw [t_equ]
    walk_at "rd*"
    refine ⟨by omega, fun l H1 n1 S1 h1 => ?_⟩
    walk_at "rd*"
    have e : ((c.1.toNat : Nat) : Int) = c.1 := Int.toNat_of_nonneg c0
    refine ⟨c.1.toNat, by rw [sg_int, e], by omega, by omega, by omega, c.2, rfl, oy, ?_⟩
    rw [e]
    rintro _ H2 ⟨g, rfl, n2, S2, h2⟩
    walk_at "rd"
    intro p H3 n3 S3 h3
    exact q p g H3 ((S1.trans S2).free n3) (S1.trans (S2.trans S3)) h3 (S3 _ _ h2)
theorem ok_swell_of (T : Tx K mg A) : FnOk P A.wd K mg base CX0 7 A.f_swell_of A.fd_swell_of ["values"] (spRd A 5) := by
  have G_check_count : FnOk P A.wd K mg base CX0 1 _ _ _ _ := ok_cc T
  have G_read_corner : FnOk P A.wd K mg base CX0 5 _ _ _ _ := ok_rc T
  have G_Swell_init : FnOk P A.wd K mg base CX0 5 _ _ _ _ := ok_swinit T
  have cl_Swell := T.cl_Swell
  have na_Swell_corners := T.na_Swell_corners
  have na_Swell_shared := T.na_Swell_shared
  have na_Swell_lines := T.na_Swell_lines
  refine T.F_swell_of.ok sc_swell_of (fun vs H Q E h => ?_) (fun cdv A' outer s H vs Q E hr h => ?_)
  · match vs, h with
    | [.ref l], _ => rfl
  · match vs, h with
    | [.ref l], ⟨d, hk, ok, hl, q⟩ =>
    cases d with
    | swell cs =>
      have hu := hr.units
      have hr_check_count : Room 1 _ := hr.mono (by decide)
      have hr_read_corner : Room 5 _ := hr.mono (by decide)
      have hr_Swell_init : Room 6 _ := hr.mono (by decide)
      have ok : CsOk cs := ok
      have L1 := ok.2.2.1
      have L12 := ok.2.2.2
      have hs : sizeLine = 16777216 := sizeLine_eq
      have jl := ok.jlen
      have sp := split_corners L1
      have d1 : ((⟨#[44]⟩ : Str).length == 0) = false := rfl
      replace hl : H l = some (.lst [.str (Str.join ⟨#[44]⟩ (cs.map cW))]) := hl
      refine ⟨_, (pss_cons (ps_expr (pe_call G_check_count hr_check_count (by rfl) T.m_check_count T.F_check_count.kp T.b_check_count .nil pass0 (pa_cons (pvF 0) (pa_cons pe_int pa_nil))))
      (pss_cons (ps_setC (i := 1) sc_swell_of.nd rfl rfl (pi_listF (pe_bmF isStrV_ty PySem.F.plainAttrs_str PySem.F.slot_str_split PySem.F.type_str_split mt_split (pe_ix ix_M (pvF 0) pe_int (fun _ _ => rfl)) (pa_cons pe_str pa_nil))) (fun _ _ _ _ _ => (pe_call G_read_corner hr_read_corner (by rfl) T.m_read_corner T.F_read_corner.kp T.b_read_corner .nil pass0 (pa_cons (pvF 0) pa_nil))) (compS (sc := defScope s_swell_of) (N := ["values", "corners", "left", "right"]) rfl rfl (by decide +kernel)) rfl)
      (pss_cons (ps_if (pt_cmpF of_gt (pe_callB call_lenM (by rfl) T.z_len boot_len (pa_cons (pvF 1) pa_nil)) (pe_glob (v := .int 12) (by rfl) T.mk_MOST_CORNERS T.rk_MOST_CORNERS) (nomark _))
      (pss_one ps_never)
      pss_nil)
      (pss_cons (ps_forW PassesOwn.never rfl (pi_zip (by rfl) T.z_zip (pa_cons (pvF 1) (pa_cons (pe_slice sl_G (pvF 1) (po_someF pe_int) po_none) pa_nil))) (pg_tupF (n := 2) rfl (pgs_consF (pg_name (i := 2) sc_swell_of.nd rfl (Or.inl rfl)) (pgs_consF (pg_name (i := 3) sc_swell_of.nd rfl (Or.inl rfl)) pgs_nilF)))
      (pss_one (ps_if (pt_cmpF of_ge (pe_ix ix_M (pvF 2) pe_int (fun _ _ => rfl)) (pe_ix ix_M (pvF 3) pe_int (fun _ _ => rfl)) (nomark _))
      (pss_one ps_never)
      pss_nil)))
      (pss_one (ps_ret (pe_makeS T.M_Swell G_Swell_init hr_Swell_init (by rfl) T.mc_Swell T.b_Swell_init .nil pass0 (pa_cons (pvF 1) pa_nil)))))))), ?_⟩
      rw [t_com]
      walk_at "rd"
      refine ⟨_, hl, rfl, ?_⟩
      walk_at "rd*"
      refine ⟨by omega, by omega, fun a H1 n1 S1 h1 => ?_⟩
      walk_at "rd"
      refine ⟨⟨_, SqL.of h1⟩, fun D H2 n2 S2 h2 => ?_⟩
      refine compW_list (xs := (cs.map cW).map V.str) (fun i ys H' => Same H1 H' ∧ H' D = some (.lst ys) ∧ ∃ ps, ys = ps.map V.ref ∧ Crn H' ps (cs.take i)) ⟨S2, h2, [], rfl, by rw [List.take_zero]; exact Crn.nil⟩ (by rw [List.length_map, List.length_map, hs]; omega) ?_ ?_ ?_
      · intro i ys H' hi ⟨S', h', ps, e, R⟩
        rw [List.length_map, List.length_map] at hi
        exact ⟨h', SqL.of (S' _ _ h1), by rw [e, List.length_map, R.1, List.length_take]; omega⟩
      · intro i x ys H' hx ⟨S', h', ps, e, R⟩
        rw [List.map_map, List.getElem?_map] at hx
        obtain ⟨c, hc, rfl⟩ := Option.map_eq_some_iff.mp hx
        obtain ⟨o1, o2, oy⟩ := ok.1 c (List.mem_of_getElem? hc)
        walk_at "rd"
        refine ⟨c, rfl, o1, o2, oy, fun p g H3 n3 S3 h3 hg => ⟨S3 _ _ h', fun H4 B4 h4 => ⟨(S'.trans S3).step n2 B4, h4, ps ++ [p], by rw [e, List.map_append]; rfl, ?_⟩⟩⟩
        rw [List.take_add_one, hc]
        exact ((R.same S3).snoc h3 hg).sameL (S3 _ _ h') B4
      · intro ys H3 ⟨S3, h3, ps, e, R⟩
        rw [List.length_map, List.length_map, List.take_length] at R
        subst e
        have pl := R.1
        have ln : ¬ (12 : Int) < (cs.length : Int) := by omega
        clear h2 sp jl
        walk_at "rd*"
        refine fun c2 H4 n4 S4 h4 => ?_
        have e2 : cutV (ps.map V.ref) (some 1) none = (ps.drop 1).map V.ref := by
          show cutG (ps.map V.ref) (some ((1 : Nat) : Int)) none = _
          rw [cutG_from, List.map_drop]
        rw [e2] at h4
        have h34 := S4 _ _ h3
        clear e2 h3
        walk_at "rd*"
        obtain ⟨Pv, pin, pout⟩ := opaqN (fun i σ H' => ∃ (v2 v3 : Option V), σ = [some (.ref l), some (.ref D), v2, v3] ∧ Same H4 H')
        refine forW_zip (xs := ps.map V.ref) (ys := (ps.drop 1).map V.ref) Pv (pin _ _ _ ⟨_, _, rfl, Same.refl _⟩) ?_ ?_ ?_
        · intro i σ H5 hp
          obtain ⟨v2, v3, rfl, S5⟩ := pout _ _ _ hp
          exact ⟨SqL.of (S5 _ _ h34), SqL.of (S5 _ _ h4)⟩
        · intro i x y σ H5 p H6 hx hy hp np S6 h6
          obtain ⟨v2, v3, rfl, S5⟩ := pout _ _ _ hp
          obtain ⟨pc, c, g, rfl, hc, hpc, hg⟩ := R.get hx
          have hy' : (ps.map V.ref)[i + 1]? = some y := by
            rw [List.map_drop, List.getElem?_drop] at hy
            rwa [Nat.add_comm] at hy
          obtain ⟨pd, d, gd, rfl, hd, hpd, hgd⟩ := R.get hy'
          have lt := ok.2.1 i c d hc hd
          have nlt : ¬ d.1 ≤ c.1 := by omega
          have SS := S4.trans (S5.trans S6)
          have hpc' := SS _ _ hpc
          have hpd' := SS _ _ hpd
          clear hpc hpd h34 h4 hg hgd
          walk_at "rd*"
          exact pin _ _ _ ⟨_, _, rfl, S5.trans S6⟩
        · intro σ H5 hp
          obtain ⟨v2, v3, rfl, S5⟩ := pout _ _ _ hp
          walk_at "rd"
          intro x dx H6 n6 n7 nx S6 hdx hx
          have hl6 := S6 _ _ (S5 _ _ h34)
          have S36 := S4.trans (S5.trans S6)
          have S03 := S1.trans S3
          have S05 := S03.trans (S4.trans S5)
          refine ⟨dx, ps, cs, hx, hl6, R.same S36, CsOk.crn ok, L1, L12, fun ct ln S ss us H7 B7 nct h7 hct hln TP sok => ?_⟩
          rw [asNew]
          refine ⟨rfl, q x H7 (S05.free n6) (fun b u e => B7 _ _ (fun z => by rw [z] at e; rw [S05 _ _ e] at n6; cases n6) (S6 _ _ (S05 _ _ e))) ⟨dx, _, h7, ct, ln, S, ss, us, ps, rfl, hct, hln, TP, sok, (R.same S36).sameB hx B7⟩⟩
    | _ => simp [Dt.kd] at hk
theorem ok_part (T : Tx K mg A) : FnOk P A.wd K mg base CX0 8 A.f_part_of A.fd_part_of ["word"] (spPart A) := by
  have G_gain_of : FnOk P A.wd K mg base CX0 6 _ _ _ _ := ok_gain_of T
  have G_delay_of : FnOk P A.wd K mg base CX0 6 _ _ _ _ := ok_delay_of T
  have G_echo_of : FnOk P A.wd K mg base CX0 6 _ _ _ _ := ok_echo_of T
  have G_back_of : FnOk P A.wd K mg base CX0 6 _ _ _ _ := ok_back_of T
  have G_hall_of : FnOk P A.wd K mg base CX0 6 _ _ _ _ := ok_hall_of T
  have G_swell_of : FnOk P A.wd K mg base CX0 7 _ _ _ _ := ok_swell_of T
  refine T.F_part_of.ok sc_part_of (fun vs H Q E h => ?_) (fun cdv A' outer s H vs Q E hr h => ?_)
  · match vs, h with
    | [.str x], _ => rfl
  · match vs, h with
    | [.str x], ⟨d, ok, hx, q⟩ =>
    subst hx
    have hu := hr.units
    have hr_gain_of : Room 6 _ := hr.mono (by decide)
    have hr_delay_of : Room 6 _ := hr.mono (by decide)
    have hr_echo_of : Room 6 _ := hr.mono (by decide)
    have hr_back_of : Room 6 _ := hr.mono (by decide)
    have hr_hall_of : Room 6 _ := hr.mono (by decide)
    have hr_swell_of : Room 7 _ := hr.mono (by decide)
    have dk := T.dk_READERS
    have sp := d.split
    have wl := d.wlen ok
    have vn := d.vn
    have hs : sizeLine = 16777216 := sizeLine_eq
    have d1 : ((⟨#[58]⟩ : Str).length == 0) = false := rfl
    obtain ⟨f, hf⟩ : ∃ f, PySem.W.nsIn K A.d_READERS d.kind = some (some (.ref f)) := by
      cases d with
      | gain => exact ⟨_, T.rd_READERS_gain⟩
      | delay => exact ⟨_, T.rd_READERS_delay⟩
      | echo => exact ⟨_, T.rd_READERS_echo⟩
      | back => exact ⟨_, T.rd_READERS_back⟩
      | hall => exact ⟨_, T.rd_READERS_hall⟩
      | swell => exact ⟨_, T.rd_READERS_swell⟩
    refine ⟨_, (pss_cons (ps_if (pt_not (pt_valF (pe_callB (call_isT .str) (by rfl) T.z_isinstance boot_isinstance (pa_cons (pvF 0) (pa_cons (pe_bltn (v := .ty "str") (u := .type "str") (by rfl) T.z_str rfl rfl) pa_nil)))))
      (pss_one ps_never)
      pss_nil)
      (pss_cons (ps_set (i := 1) sc_part_of.nd rfl (Or.inl rfl) (pe_bmF isStrV_ty PySem.F.plainAttrs_str PySem.F.slot_str_split PySem.F.type_str_split mt_split (pvF 0) (pa_cons pe_str pa_nil)))
      (pss_cons (ps_if (pt_cmpF (op_notInD (K := K) (w := A.wd) (by rfl) (by rfl)) (pe_ix ix_M (pvF 1) pe_int (fun _ _ => rfl)) (pe_glob (v := .ref A.d_READERS) (by rfl) T.md_READERS rfl) (by rfl))
      (pss_one ps_never)
      pss_nil)
      (pss_one (ps_ret (pe_either (pe_callX G_gain_of hr_gain_of T.F_gain_of.kp T.b_gain_of .nil pass0 (pe_ix (ix_D (K := K) (w := A.wd) (by rfl) (by rfl)) (pe_glob (v := .ref A.d_READERS) (by rfl) T.md_READERS rfl) (pe_ix ix_M (pvF 1) pe_int (fun _ _ => rfl)) (fun _ _ => rfl)) (pa_cons (pe_slice sl_A (pvF 1) (po_someF pe_int) po_none) pa_nil)) (pe_either (pe_callX G_delay_of hr_delay_of T.F_delay_of.kp T.b_delay_of .nil pass0 (pe_ix (ix_D (K := K) (w := A.wd) (by rfl) (by rfl)) (pe_glob (v := .ref A.d_READERS) (by rfl) T.md_READERS rfl) (pe_ix ix_M (pvF 1) pe_int (fun _ _ => rfl)) (fun _ _ => rfl)) (pa_cons (pe_slice sl_A (pvF 1) (po_someF pe_int) po_none) pa_nil)) (pe_either (pe_callX G_echo_of hr_echo_of T.F_echo_of.kp T.b_echo_of .nil pass0 (pe_ix (ix_D (K := K) (w := A.wd) (by rfl) (by rfl)) (pe_glob (v := .ref A.d_READERS) (by rfl) T.md_READERS rfl) (pe_ix ix_M (pvF 1) pe_int (fun _ _ => rfl)) (fun _ _ => rfl)) (pa_cons (pe_slice sl_A (pvF 1) (po_someF pe_int) po_none) pa_nil)) (pe_either (pe_callX G_back_of hr_back_of T.F_back_of.kp T.b_back_of .nil pass0 (pe_ix (ix_D (K := K) (w := A.wd) (by rfl) (by rfl)) (pe_glob (v := .ref A.d_READERS) (by rfl) T.md_READERS rfl) (pe_ix ix_M (pvF 1) pe_int (fun _ _ => rfl)) (fun _ _ => rfl)) (pa_cons (pe_slice sl_A (pvF 1) (po_someF pe_int) po_none) pa_nil)) (pe_either (pe_callX G_hall_of hr_hall_of T.F_hall_of.kp T.b_hall_of .nil pass0 (pe_ix (ix_D (K := K) (w := A.wd) (by rfl) (by rfl)) (pe_glob (v := .ref A.d_READERS) (by rfl) T.md_READERS rfl) (pe_ix ix_M (pvF 1) pe_int (fun _ _ => rfl)) (fun _ _ => rfl)) (pa_cons (pe_slice sl_A (pvF 1) (po_someF pe_int) po_none) pa_nil)) (pe_callX G_swell_of hr_swell_of T.F_swell_of.kp T.b_swell_of .nil pass0 (pe_ix (ix_D (K := K) (w := A.wd) (by rfl) (by rfl)) (pe_glob (v := .ref A.d_READERS) (by rfl) T.md_READERS rfl) (pe_ix ix_M (pvF 1) pe_int (fun _ _ => rfl)) (fun _ _ => rfl)) (pa_cons (pe_slice sl_A (pvF 1) (po_someF pe_int) po_none) pa_nil)))))))))))), ?_⟩
    rw [t_col]
    walk_at "rd*"
    refine ⟨by omega, by omega, fun l H1 n1 S1 h1 => ?_⟩
    clear sp wl
    walk_at "rd*"
    clear hf
    cases d with
    | gain y =>
      refine Or.inl ?_
      have rd := T.rd_READERS_gain
      have q1 := ok
      clear ok
      replace h1 : H1 l = some (.lst [.str (Str.ofString "gain"), .str (fW y)]) := h1
      walk_at "rd*"
      refine fun m H2 n2 S2 h2 => ?_
      have e2 : cutV [V.str (Str.ofString "gain"), V.str (fW y)] (some 1) none = (Dt.gain y).vals.map V.str := by
        show cutG _ (some ((1 : Nat) : Int)) none = _
        rw [cutG_from]
        rfl
      rw [e2] at h2
      walk_at "rd"
      exact ⟨_, rfl, q1, h2, fun o H3 n3 S3 hp => q o H3 ((S1.trans S2).free n3) (S1.trans (S2.trans S3)) hp⟩
    | delay n =>
      refine Or.inr (Or.inl ?_)
      have rd := T.rd_READERS_delay
      have q1 := ok
      clear ok
      replace h1 : H1 l = some (.lst [.str (Str.ofString "delay"), .str (nW n)]) := h1
      walk_at "rd*"
      refine fun m H2 n2 S2 h2 => ?_
      have e2 : cutV [V.str (Str.ofString "delay"), V.str (nW n)] (some 1) none = (Dt.delay n).vals.map V.str := by
        show cutG _ (some ((1 : Nat) : Int)) none = _
        rw [cutG_from]
        rfl
      rw [e2] at h2
      walk_at "rd"
      exact ⟨_, rfl, q1, h2, fun o H3 n3 S3 hp => q o H3 ((S1.trans S2).free n3) (S1.trans (S2.trans S3)) hp⟩
    | echo y n t =>
      refine Or.inr (Or.inr (Or.inl ?_))
      have rd := T.rd_READERS_echo
      have q1 := ok
      clear ok
      replace h1 : H1 l = some (.lst [.str (Str.ofString "echo"), .str (fW y), .str (nW n), .str (nW t)]) := h1
      walk_at "rd*"
      refine fun m H2 n2 S2 h2 => ?_
      have e2 : cutV [V.str (Str.ofString "echo"), V.str (fW y), V.str (nW n), V.str (nW t)] (some 1) none = (Dt.echo y n t).vals.map V.str := by
        show cutG _ (some ((1 : Nat) : Int)) none = _
        rw [cutG_from]
        rfl
      rw [e2] at h2
      walk_at "rd"
      exact ⟨_, rfl, q1, h2, fun o H3 n3 S3 hp => q o H3 ((S1.trans S2).free n3) (S1.trans (S2.trans S3)) hp⟩
    | back y n =>
      refine Or.inr (Or.inr (Or.inr (Or.inl ?_)))
      have rd := T.rd_READERS_back
      have q1 := ok
      clear ok
      replace h1 : H1 l = some (.lst [.str (Str.ofString "back"), .str (fW y), .str (nW n)]) := h1
      walk_at "rd*"
      refine fun m H2 n2 S2 h2 => ?_
      have e2 : cutV [V.str (Str.ofString "back"), V.str (fW y), V.str (nW n)] (some 1) none = (Dt.back y n).vals.map V.str := by
        show cutG _ (some ((1 : Nat) : Int)) none = _
        rw [cutG_from]
        rfl
      rw [e2] at h2
      walk_at "rd"
      exact ⟨_, rfl, q1, h2, fun o H3 n3 S3 hp => q o H3 ((S1.trans S2).free n3) (S1.trans (S2.trans S3)) hp⟩
    | hall y n =>
      refine Or.inr (Or.inr (Or.inr (Or.inr (Or.inl ?_))))
      have rd := T.rd_READERS_hall
      have q1 := ok
      clear ok
      replace h1 : H1 l = some (.lst [.str (Str.ofString "hall"), .str (fW y), .str (nW n)]) := h1
      walk_at "rd*"
      refine fun m H2 n2 S2 h2 => ?_
      have e2 : cutV [V.str (Str.ofString "hall"), V.str (fW y), V.str (nW n)] (some 1) none = (Dt.hall y n).vals.map V.str := by
        show cutG _ (some ((1 : Nat) : Int)) none = _
        rw [cutG_from]
        rfl
      rw [e2] at h2
      walk_at "rd"
      exact ⟨_, rfl, q1, h2, fun o H3 n3 S3 hp => q o H3 ((S1.trans S2).free n3) (S1.trans (S2.trans S3)) hp⟩
    | swell cs =>
      refine Or.inr (Or.inr (Or.inr (Or.inr (Or.inr ?_))))
      have rd := T.rd_READERS_swell
      have q1 := ok
      clear ok
      replace h1 : H1 l = some (.lst [.str (Str.ofString "swell"), .str (Str.join ⟨#[44]⟩ (cs.map cW))]) := h1
      walk_at "rd*"
      refine fun m H2 n2 S2 h2 => ?_
      have e2 : cutV [V.str (Str.ofString "swell"), V.str (Str.join ⟨#[44]⟩ (cs.map cW))] (some 1) none = (Dt.swell cs).vals.map V.str := by
        show cutG _ (some ((1 : Nat) : Int)) none = _
        rw [cutG_from]
        rfl
      rw [e2] at h2
      walk_at "rd"
      exact ⟨_, rfl, q1, h2, fun o H3 n3 S3 hp => q o H3 ((S1.trans S2).free n3) (S1.trans (S2.trans S3)) hp⟩

theorem meth_at {C o : Addr} {i : Nat} {m : Str} {sp : Sp} {E : XK} {t : TA} {σ : L2.St} {H : Hp} {Q : VK} {dx : Addr} {fs : List (Str × V)} (hσ : σ[i]? = some (some (.ref o))) (ho : H o = some (.ins C dx fs)) (hl : fs.lookup m = none) (ht : t σ H fun vs H2 => sp (.ref o :: (vs ++ [])) H2 Q E) : tMethF C m sp [] E (tVarF i) t σ H Q := by
  simp only [tMethF, tVarF, hσ, ho]
  exact ⟨trivial, hl, ht⟩
theorem thr6 {σ : L2.St} {i : Nat} {o : Addr} {H : Hp} {d : Dt} {S : Int} {ss : List Rat} {Q : VK} {E : XK} {t : TA} (hσ : σ[i]? = some (some (.ref o))) (hd : IsPS A H o d S ss) (ht : t σ H fun vs H2 => spThP A d.kd (.ref o :: (vs ++ [])) H2 Q E) :
    tEither (tMethF A.c_Gain "through" (spThP A 0) [] E (tVarF i) t) (tEither (tMethF A.c_Delay "through" (spThP A 1) [] E (tVarF i) t) (tEither (tMethF A.c_Echo "through" (spThP A 2) [] E (tVarF i) t) (tEither (tMethF A.c_Back "through" (spThP A 3) [] E (tVarF i) t) (tEither (tMethF A.c_Hall "through" (spThP A 4) [] E (tVarF i) t) (tMethF A.c_Swell "through" (spThP A 5) [] E (tVarF i) t))))) σ H Q := by
  cases d with
  | gain y =>
    obtain ⟨dx, _, ho, g, rfl, hg⟩ := hd
    refine .inl ?_
    replace ho : H o = some (.ins A.c_Gain dx [("gain", .ref g)]) := ho
    exact meth_at hσ ho (by walk_at "rd") ht
  | delay n =>
    obtain ⟨dx, _, ho, rfl⟩ := hd
    refine .inr (.inl ?_)
    replace ho : H o = some (.ins A.c_Delay dx [("many", .int n)]) := ho
    exact meth_at hσ ho (by walk_at "rd") ht
  | echo y n t' =>
    obtain ⟨dx, _, ho, g, fa, rfl, hg, hf⟩ := hd
    refine .inr (.inr (.inl ?_))
    replace ho : H o = some (.ins A.c_Echo dx (ecF g fa n t' (y.den : Int))) := ho
    unfold ecF at ho
    exact meth_at hσ ho (by walk_at "rd") ht
  | back y n =>
    obtain ⟨dx, _, ho, g, rfl, hg⟩ := hd
    refine .inr (.inr (.inr (.inl ?_)))
    replace ho : H o = some (.ins A.c_Back dx [("gain", .ref g), ("many", .int n)]) := ho
    exact meth_at hσ ho (by walk_at "rd") ht
  | hall y n =>
    obtain ⟨dx, _, ho, g, rfl, hg⟩ := hd
    refine .inr (.inr (.inr (.inr (.inl ?_))))
    replace ho : H o = some (.ins A.c_Hall dx [("gain", .ref g), ("many", .int n)]) := ho
    exact meth_at hσ ho (by walk_at "rd") ht
  | swell cs =>
    obtain ⟨dx, _, ho, ct, ln, us, ps, rfl, hct, hln, TP, sok, R⟩ := hd
    refine .inr (.inr (.inr (.inr (.inr ?_))))
    replace ho : H o = some (.ins A.c_Swell dx [("corners", .ref ct), ("shared", .int S), ("lines", .ref ln)]) := ho
    exact meth_at hσ ho (by walk_at "rd") ht
theorem fr6 {σ : L2.St} {i : Nat} {o : Addr} {H : Hp} {d : Dt} {S : Int} {ss : List Rat} {Q : VK} {E : XK} (hσ : σ[i]? = some (some (.ref o))) (hd : IsPS A H o d S ss) (q : ∀ st H1, Same H H1 → (∀ b, StV H1 b [] st d) → Q st H1) :
    tEither (tMethF A.c_Gain "fresh" spFresh [] E (tVarF i) tNil) (tEither (tMethF A.c_Delay "fresh" spFresh [] E (tVarF i) tNil) (tEither (tMethF A.c_Echo "fresh" spFresh [] E (tVarF i) tNil) (tEither (tMethF A.c_Back "fresh" spFresh [] E (tVarF i) tNil) (tEither (tMethF A.c_Hall "fresh" spFresh [] E (tVarF i) tNil) (tMethF A.c_Swell "fresh" spSwFresh [] E (tVarF i) tNil))))) σ H Q := by
  have fin : d.kd ≠ 5 → All (FreshT H []) Q ⟨⟩ ⟨⟩ := fun hk => by
    rintro _ H1 ⟨p, rfl, n1, S1, h1⟩
    exact q _ H1 S1 fun b => st_fresh hk h1 b
  cases d with
  | gain y =>
    obtain ⟨dx, _, ho, g, rfl, hg⟩ := hd
    refine .inl ?_
    replace ho : H o = some (.ins A.c_Gain dx [("gain", .ref g)]) := ho
    walk_at "rd*"
    exact fin (by simp [Dt.kd])
  | delay n =>
    obtain ⟨dx, _, ho, rfl⟩ := hd
    refine .inr (.inl ?_)
    replace ho : H o = some (.ins A.c_Delay dx [("many", .int n)]) := ho
    walk_at "rd*"
    exact fin (by simp [Dt.kd])
  | echo y n t' =>
    obtain ⟨dx, _, ho, g, fa, rfl, hg, hf⟩ := hd
    refine .inr (.inr (.inl ?_))
    replace ho : H o = some (.ins A.c_Echo dx (ecF g fa n t' (y.den : Int))) := ho
    unfold ecF at ho
    walk_at "rd*"
    exact fin (by simp [Dt.kd])
  | back y n =>
    obtain ⟨dx, _, ho, g, rfl, hg⟩ := hd
    refine .inr (.inr (.inr (.inl ?_)))
    replace ho : H o = some (.ins A.c_Back dx [("gain", .ref g), ("many", .int n)]) := ho
    walk_at "rd*"
    exact fin (by simp [Dt.kd])
  | hall y n =>
    obtain ⟨dx, _, ho, g, rfl, hg⟩ := hd
    refine .inr (.inr (.inr (.inr (.inl ?_))))
    replace ho : H o = some (.ins A.c_Hall dx [("gain", .ref g), ("many", .int n)]) := ho
    walk_at "rd*"
    exact fin (by simp [Dt.kd])
  | swell cs =>
    obtain ⟨dx, _, ho, ct, ln, us, ps, rfl, hct, hln, TP, sok, R⟩ := hd
    refine .inr (.inr (.inr (.inr (.inr ?_))))
    replace ho : H o = some (.ins A.c_Swell dx [("corners", .ref ct), ("shared", .int S), ("lines", .ref ln)]) := ho
    walk_at "rd*"
    exact q _ H (Same.refl _) fun b => rfl
theorem gr6 {σ : L2.St} {i : Nat} {o : Addr} {H : Hp} {d : Dt} {S : Int} {ss : List Rat} {Q : VK} {E : XK} (hσ : σ[i]? = some (some (.ref o))) (hd : IsPS A H o d S ss) (q : Q (.int (grainOf S d)) H) :
    tEither (tMethF A.c_Gain "grain" (spGrP A 0) [] E (tVarF i) tNil) (tEither (tMethF A.c_Delay "grain" spPGrain [] E (tVarF i) tNil) (tEither (tMethF A.c_Echo "grain" (spGrP A 2) [] E (tVarF i) tNil) (tEither (tMethF A.c_Back "grain" (spGrP A 3) [] E (tVarF i) tNil) (tEither (tMethF A.c_Hall "grain" spPGrain [] E (tVarF i) tNil) (tMethF A.c_Swell "grain" (spGrP A 5) [] E (tVarF i) tNil))))) σ H Q := by
  have z := hd
  cases d with
  | gain y =>
    obtain ⟨dx, _, ho, g, rfl, hg⟩ := hd
    refine .inl ?_
    replace ho : H o = some (.ins A.c_Gain dx [("gain", .ref g)]) := ho
    exact meth_at hσ ho (by walk_at "rd") ⟨_, S, ss, rfl, z, q⟩
  | delay n =>
    obtain ⟨dx, _, ho, rfl⟩ := hd
    refine .inr (.inl ?_)
    replace ho : H o = some (.ins A.c_Delay dx [("many", .int n)]) := ho
    walk_at "rd*"
    exact q
  | echo y n t' =>
    obtain ⟨dx, _, ho, g, fa, rfl, hg, hf⟩ := hd
    refine .inr (.inr (.inl ?_))
    replace ho : H o = some (.ins A.c_Echo dx (ecF g fa n t' (y.den : Int))) := ho
    unfold ecF at ho
    exact meth_at hσ ho (by walk_at "rd") ⟨_, S, ss, rfl, z, q⟩
  | back y n =>
    obtain ⟨dx, _, ho, g, rfl, hg⟩ := hd
    refine .inr (.inr (.inr (.inl ?_)))
    replace ho : H o = some (.ins A.c_Back dx [("gain", .ref g), ("many", .int n)]) := ho
    exact meth_at hσ ho (by walk_at "rd") ⟨_, S, ss, rfl, z, q⟩
  | hall y n =>
    obtain ⟨dx, _, ho, g, rfl, hg⟩ := hd
    refine .inr (.inr (.inr (.inr (.inl ?_))))
    replace ho : H o = some (.ins A.c_Hall dx [("gain", .ref g), ("many", .int n)]) := ho
    walk_at "rd*"
    exact q
  | swell cs =>
    obtain ⟨dx, _, ho, ct, ln, us, ps, rfl, hct, hln, TP, sok, R⟩ := hd
    refine .inr (.inr (.inr (.inr (.inr ?_))))
    replace ho : H o = some (.ins A.c_Swell dx [("corners", .ref ct), ("shared", .int S), ("lines", .ref ln)]) := ho
    exact meth_at hσ ho (by walk_at "rd") ⟨_, S, ss, rfl, z, q⟩

theorem ok_cell (T : Tx K mg A) : FnOk P A.wd K mg base CX0 1 A.f_law_cell_at A.fd_law_cell_at ["_law_script", "_law_k"] (spCell K) := by
  refine T.F_law_cell_at.ok sc_law_cell_at (fun vs H Q E h => ?_) (fun cdv A' outer s H vs Q E hr h => ?_)
  · match vs, h with
    | [.ref a, .int k], _ => rfl
  · match vs, h with
    | [.ref a, .int k], ⟨ns, hS, hk, q⟩ =>
    have hu := hr.units
    refine ⟨_, (pss_cons (ps_if (pt_cmpF of_lt (pvF 1) (pe_callB call_lenKF (by rfl) T.z_len boot_len (pa_cons (pvF 0) pa_nil)) (nomark _))
      (pss_one (ps_ret (pe_ix ix_S (pvF 0) (pvF 1) (fun _ _ => rfl))))
      pss_nil)
      (pss_one (ps_ret pe_int))), ?_⟩
    walk_at "rd"
    refine ⟨_, hS, ?_⟩
    rw [List.length_map]
    split
    · rename_i h
      exact ⟨_, hS, hk, h, q⟩
    · rename_i h
      obtain ⟨j, rfl⟩ := Int.eq_ofNat_of_zero_le hk
      rw [List.getD_eq_getElem?_getD, List.getElem?_eq_none (by omega)] at q
      exact q
theorem ok_whole (T : Tx K mg A) : FnOk P A.wd K mg base CX0 1 A.f_law_whole A.fd_law_whole ["_law_found"] spWhole := by
  refine T.F_law_whole.ok sc_law_whole (fun vs H Q E h => ?_) (fun cdv A' outer s H vs Q E hr h => ?_)
  · match vs, h with
    | [.int i], _ => rfl
  · match vs, h with
    | [.int i], q =>
    have hu := hr.units
    refine ⟨_, (pss_one (ps_ret (pe_andF (pe_callB (call_isT .int) (by rfl) T.z_isinstance boot_isinstance (pa_cons (pvF 0) (pa_cons (pe_bltn (v := .ty "int") (u := .type "int") (by rfl) T.z_int rfl rfl) pa_nil))) (pe_one (pe_notF (pe_callB (call_isT .bl) (by rfl) T.z_isinstance boot_isinstance (pa_cons (pvF 0) (pa_cons (pe_bltn (v := .ty "bool") (u := .type "bool") (by rfl) T.z_bool rfl rfl) pa_nil)))))))), ?_⟩
    walk_at "rd"
    exact q
theorem ok_ldiv0 (T : Tx K mg A) : FnOk P A.wd K mg base CX0 1 A.f_law_divisor A.fd_law_divisor ["_law_one", "_law_other"] spGcd0 := by
  refine T.F_law_divisor.ok sc_law_divisor (fun vs H Q E h => ?_) (fun cdv A' outer s H vs Q E hr h => ?_)
  · match vs, h with
    | [.int a, .int b], _ => rfl
  · match vs, h with
    | [.int a, .int b], ⟨a0, b0, q⟩ =>
    have hu := hr.units
    refine ⟨_, (pss_cons (ps_whileW PassesOwn.never (pt_cmpF of_gt (pvF 1) pe_int (nomark _))
      (pss_cons (ps_set (i := 2) sc_law_divisor.nd rfl (Or.inl rfl) (pe_op of_mod (pvF 0) (pvF 1)))
      (pss_cons (ps_set (i := 0) sc_law_divisor.nd rfl (Or.inl rfl) (pvF 1))
      (pss_one (ps_set (i := 1) sc_law_divisor.nd rfl (Or.inl rfl) (pvF 2))))))
      (pss_one (ps_ret (pvF 0)))), ?_⟩
    walk_at "rd"
    refine whileW_by (fun m σ H1 => ∃ l r z, σ = [some (.int l), some (.int r), z] ∧ H1 = H ∧ 0 ≤ l ∧ 0 ≤ r ∧ m = r.toNat ∧ Int.gcd l r = Int.gcd a b) _
      ⟨_, _, _, rfl, rfl, a0, b0, rfl, rfl⟩ ?_
    rintro m σ H1 ⟨l, r, z, rfl, rfl, hl, hr', rfl, hg⟩
    walk_at "rd"
    split
    · rename_i h
      have hp : 0 < r := by omega
      have f := fmod_lt hl hp
      exact ⟨by omega, _, (by omega : (l.fmod r).toNat < r.toNat), _, _, _, ⟨rfl, rfl, rfl⟩, hr', f.1, rfl, (gcd_step hl hp).trans hg⟩
    · rename_i h
      obtain rfl : r = 0 := by omega
      rw [← hg, gcd_zero hl] at q
      exact q

theorem natAbs_lt_of {t b g : Int} (hg : 0 < g) (h1 : g ∣ t) (h2 : g ∣ b) (h : (t.natAbs : Int) < b) : ((t.fdiv g).natAbs : Int) < b.fdiv g := by
  obtain ⟨x, rfl⟩ := h1
  obtain ⟨y, rfl⟩ := h2
  rw [Int.mul_fdiv_cancel_left _ (by omega), Int.mul_fdiv_cancel_left _ (by omega)]
  rw [Int.natAbs_mul] at h
  have e : ((g.natAbs * x.natAbs : Nat) : Int) = g * (x.natAbs : Int) := by rw [Int.natCast_mul]; congr 1; omega
  rw [e] at h
  exact Int.lt_of_mul_lt_mul_left h (by omega)
theorem fdiv_pos_of_dvd {a g : Int} (ha : 0 < a) (hg : 0 < g) (h : g ∣ a) : 0 < a.fdiv g := by
  obtain ⟨z, rfl⟩ := h
  rw [Int.mul_fdiv_cancel_left _ (by omega)]
  rcases Int.lt_or_le 0 z with h | h
  · exact h
  · exfalso
    have := Int.mul_nonpos_of_nonneg_of_nonpos (a := g) (by omega) h
    omega
theorem low_terms {t b : Int} (t1 : t.natAbs ≤ 1000) (b1 : 1 ≤ b) (b2 : b ≤ 1000) : 0 < Int.gcd (t.natAbs : Int) b ∧ CFd t (Int.gcd (t.natAbs : Int) b : Int) ∧ CFd b (Int.gcd (t.natAbs : Int) b : Int) ∧
    ∃ y : Rat, YOk y ∧ y.num = t.fdiv (Int.gcd (t.natAbs : Int) b : Int) ∧ (y.den : Int) = b.fdiv (Int.gcd (t.natAbs : Int) b : Int) ∧ ((t.natAbs : Int) < b → (y.num.natAbs : Int) < y.den) := by
  have gp : 0 < Int.gcd (t.natAbs : Int) b := Int.gcd_pos_of_ne_zero_right _ (by omega)
  have gl : (Int.gcd (t.natAbs : Int) b : Int) ≤ b := Int.le_of_dvd (by omega) (Int.gcd_dvd_right _ _)
  have gd : (Int.gcd (t.natAbs : Int) b : Int) ∣ t := by
    have := Int.gcd_dvd_left (t.natAbs : Int) b
    exact Int.dvd_natAbs.mp this
  have gd2 : (Int.gcd (t.natAbs : Int) b : Int) ∣ b := Int.gcd_dvd_right _ _
  have ge : Int.gcd (t.natAbs : Int) b = Int.gcd t b := by
    have := gcd_abs t b
    rw [← this, show ((b.natAbs : Nat) : Int) = b by omega]
  have cf : CFd t (Int.gcd (t.natAbs : Int) b : Int) := ⟨by omega, Nat.le_trans (intBits_le_64 (by omega) (by omega)) (by decide)⟩
  have q1 := natAbs_quot (a := t) (g := (Int.gcd (t.natAbs : Int) b : Int)) (by omega) gd
  have q2 := natAbs_quot (a := b) (g := (Int.gcd (t.natAbs : Int) b : Int)) (by omega) gd2
  have q3 : 0 < b.fdiv (Int.gcd (t.natAbs : Int) b : Int) := fdiv_pos_of_dvd (by omega) (by omega) gd2
  have q4 : Int.gcd (t.fdiv (Int.gcd (t.natAbs : Int) b : Int)) (b.fdiv (Int.gcd (t.natAbs : Int) b : Int)) = 1 := by
    rw [ge]
    have := gcd_quot (a := t) (b := b) (by omega)
    omega
  have d1 : t.natAbs / (Int.gcd (t.natAbs : Int) b : Int).natAbs ≤ t.natAbs := Nat.div_le_self _ _
  have d2 : b.natAbs / (Int.gcd (t.natAbs : Int) b : Int).natAbs ≤ b.natAbs := Nat.div_le_self _ _
  obtain ⟨y, y1, y2⟩ := rat_of (by omega : 1 ≤ b.fdiv (Int.gcd (t.natAbs : Int) b : Int)) q4
  refine ⟨gp, cf, ⟨cf.1, cf.2⟩, y, ⟨by rw [y1]; omega, by omega⟩, y1, y2, fun z => ?_⟩
  rw [y1, y2]
  exact natAbs_lt_of (by omega) gd gd2 z

theorem ton4_bnd (c : Int) : -1000000000000 ≤ ton4 c ∧ ton4 c ≤ 1000000000000 := by
  unfold ton4
  have := fm_bnd ((c * 414213562373095048801689).fmod (10 ^ Int.toNat 24 + 7)) (b := 2000000000001) (by decide)
  split <;> omega
theorem ok_tone4 (T : Tx K mg A) : FnOk P A.wd K mg base CX0 1 A.f_law_tone A.fd_law_tone ["_law_cell"] spTone4 := by
  refine T.F_law_tone.ok sc_law_tone (fun vs H Q E h => ?_) (fun cdv A' outer s H vs Q E hr h => ?_)
  · match vs, h with
    | [.int c], _ => rfl
  · match vs, h with
    | [.int c], ⟨hc, q⟩ =>
    have hu := hr.units
    unfold ton4 at q
    refine ⟨_, (pss_pause (ps_if (pt_cmpF (op_eqM hu) (pe_op of_mod (pvF 0) pe_int) pe_int (nomark _))
      (pss_one (ps_ret pe_int))
      pss_nil)
      (pss_one (ps_ret (pe_op of_sub (pe_op of_mod (pe_op of_mod (pe_op op_mulM (pvF 0) pe_int) (pe_op op_addM (pe_op of_pow pe_int pe_int) pe_int)) (pe_op op_addM (pe_op op_mulM pe_int (pe_op of_pow pe_int pe_int)) pe_int)) (pe_op of_pow pe_int pe_int))))), ?_⟩
    walk_at "rd"
    split
    · rename_i h
      rw [if_pos h] at q
      exact q
    · rename_i h
      rw [if_neg h] at q
      refine Stop.go ?_
      show IntMulOk c 414213562373095048801689 ∧ (CPow 10 24 ∧ ((10 : Int) ^ Int.toNat 24 + 7 ≠ 0 ∧ (CPow 10 12 ∧ (IntMulOk 2 ((10 : Int) ^ Int.toNat 12) ∧ (2 * (10 : Int) ^ Int.toNat 12 + 1 ≠ 0 ∧ (CPow 10 12 ∧ Q (.int (((c * 414213562373095048801689).fmod (10 ^ Int.toNat 24 + 7)).fmod (2 * (10 : Int) ^ Int.toNat 12 + 1) - (10 : Int) ^ Int.toNat 12)) H))))))
      rw [show (10 : Int) ^ Int.toNat 12 = 1000000000000 by decide, show 2 * (1000000000000 : Int) + 1 = 2000000000001 by decide]
      exact ⟨by walk_at "mul", by unfold CPow; decide, by decide, by unfold CPow; decide, by walk_at "mul", by decide, by unfold CPow; decide, q⟩

theorem emp_app (x : Str) : Str.empty ++ x = x := sg_inj (by rw [sg_append]; rfl)
theorem v_gain (y : Rat) : Str.ofString "gain:" ++ fW y = (Dt.gain y).word := by rw [← w_gain, emp_app]
theorem v_delay (n : Nat) : Str.ofString "delay:" ++ nW n = (Dt.delay n).word := by rw [← w_delay, emp_app]
theorem v_echo (y : Rat) (n t : Nat) : Str.ofString "echo:" ++ fW y ++ Str.ofString ":" ++ nW n ++ Str.ofString ":" ++ nW t = (Dt.echo y n t).word := by rw [← w_echo, emp_app]
theorem v_back (y : Rat) (n : Nat) : Str.ofString "back" ++ Str.ofString ":" ++ fW y ++ Str.ofString ":" ++ nW n = (Dt.back y n).word := by
  rw [← w_back, emp_app, show Str.ofString "back" ++ Str.ofString ":" = Str.ofString "back:" from sg_inj (by rw [sg_append, s_back, s_col])]
theorem v_hall (y : Rat) (n : Nat) : Str.ofString "hall" ++ Str.ofString ":" ++ fW y ++ Str.ofString ":" ++ nW n = (Dt.hall y n).word := by
  rw [← w_hall, emp_app, show Str.ofString "hall" ++ Str.ofString ":" = Str.ofString "hall:" from sg_inj (by rw [sg_append, s_hall, s_col])]
theorem v_swell (cs : List (Int × Rat)) : Str.ofString "swell:" ++ Txt.join (Str.ofString ",") (cs.map cW) = (Dt.swell cs).word := by rw [← w_swell, emp_app]
theorem v_corner (c : Int × Rat) : Str.ofString (toString c.1) ++ Str.ofString "=" ++ fW c.2 = cW c := by unfold cW; rw [emp_app]

theorem ok_gainT (T : Tx K mg A) : FnOk P A.wd K mg base CX0 2 A.f_law_gain A.fd_law_gain ["_law_mixed", "_law_hall"] spGainT := by
  have G_law_divisor : FnOk P A.wd K mg base CX0 1 _ _ _ _ := ok_ldiv0 T
  refine T.F_law_gain.ok sc_law_gain (fun vs H Q E h => ?_) (fun cdv A' outer s H vs Q E hr h => ?_)
  · match vs, h with
    | [.int m, .bl hh], _ => rfl
  · match vs, h with
    | [.int m, .bl hh], ⟨hc, k⟩ =>
    have hu := hr.units
    have hr_law_divisor : Room 1 _ := hr.mono (by decide)
    have hs : sizeLine = 16777216 := sizeLine_eq
    refine ⟨_, (pss_cons (ps_set (i := 2) sc_law_gain.nd rfl (Or.inl rfl) (pe_op op_addM pe_int (pe_op of_mod (pvF 0) pe_int)))
      (pss_cut (ps_if (pt_cmpF (op_eqM hu) (pe_op of_mod (pe_op of_fdiv (pvF 0) pe_int) pe_int) pe_int (nomark _))
      (pss_one (ps_set (i := 2) sc_law_gain.nd rfl (Or.inl rfl) (pe_op op_addM pe_int (pe_op of_mod (pvF 0) pe_int))))
      pss_nil)
      (pss_cons (ps_set (i := 3) sc_law_gain.nd rfl (Or.inl rfl) (pe_op of_sub (pe_op of_mod (pe_op of_fdiv (pvF 0) pe_int) pe_int) pe_int))
      (pss_cut (ps_if (pt_valF (pvF 1))
      (pss_one (ps_set (i := 3) sc_law_gain.nd rfl (Or.inl rfl) (pe_op op_addM (pe_op of_sub (pe_op of_mod (pe_op of_fdiv (pvF 0) pe_int) (pe_op of_sub (pe_op op_mulM pe_int (pvF 2)) pe_int)) (pvF 2)) pe_int)))
      pss_nil)
      (pss_cons (ps_set (i := 4) sc_law_gain.nd rfl (Or.inl rfl) (pe_call G_law_divisor hr_law_divisor (by rfl) T.m_law_divisor T.F_law_divisor.kp T.b_law_divisor .nil pass0 (pa_cons (pe_callB call_absF (by rfl) T.z_abs boot_abs (pa_cons (pvF 3) pa_nil)) (pa_cons (pvF 2) pa_nil))))
      (pss_one (ps_ret (pe_op op_addM (pe_op op_addM (pe_callTy call_strF (by rfl) T.z_str boot_str (pa_cons (pe_op of_fdiv (pvF 3) (pvF 4)) pa_nil)) pe_str) (pe_callTy call_strF (by rfl) T.z_str boot_str (pa_cons (pe_op of_fdiv (pvF 2) (pvF 4)) pa_nil)))))))))), ?_⟩
    have f1 := fm_bnd m (b := 1000) (by decide)
    have f4 := fm_bnd m (b := 4) (by decide)
    walk_at "rd"
    obtain ⟨Mid, pin, pout⟩ := opaq (fun σ' H' => ∃ b : Int, σ' = [some (.int m), some (.bl hh), some (.int b), none, none] ∧ H' = H ∧ 1 ≤ b ∧ b ≤ 1000)
    refine ⟨Mid, ?_, ?_⟩
    · walk_at "rd"
      refine ⟨⟨by decide, by decide⟩, ?_⟩
      split
      · exact pin _ _ ⟨_, rfl, rfl, by omega, by omega⟩
      · exact pin _ _ ⟨_, rfl, rfl, by omega, by omega⟩
    intro σ' H' hm
    obtain ⟨b, rfl, rfl, b1, b2⟩ := pout _ _ hm
    have f5 := fm_bnd (m.fdiv 2000) (b := 2001) (by decide)
    have f6 := fm_bnd (m.fdiv 2000) (b := 2 * b - 1) (by omega)
    obtain ⟨Mid2, pin2, pout2⟩ := opaq (fun σ' H1 => ∃ t : Int, σ' = [some (.int m), some (.bl hh), some (.int b), some (.int t), none] ∧ H1 = H' ∧ t.natAbs ≤ 1000 ∧ (hh = true → (t.natAbs : Int) < b))
    walk_at "rd"
    refine ⟨⟨by decide, by decide⟩, Mid2, ?_, ?_⟩
    · walk_at "rd"
      split
      · refine ⟨⟨by decide, by decide⟩, by walk_at "mul", by omega, pin2 _ _ ⟨_, rfl, rfl, by omega, fun _ => by omega⟩⟩
      · rename_i hf
        exact pin2 _ _ ⟨_, rfl, rfl, by omega, fun z => absurd z hf⟩
    intro σ' H1 hm2
    obtain ⟨t, rfl, rfl, t1, th⟩ := pout2 _ _ hm2
    obtain ⟨gp, cf1, cf2, y, oy, y1, y2, yl⟩ := low_terms t1 b1 b2
    have q := k y oy fun z => yl (th z)
    have g1 := log_of (intBits_le_iff.mp oy.b.1) (by decide)
    have g2 := log_of (intBits_le_iff.mp oy.b.2) (by decide)
    have a := int_len (intBits_le_iff.mp oy.b.1) (by decide)
    have c := int_len (intBits_le_iff.mp oy.b.2) (by decide)
    have e1 : (Str.ofString "/").length = 1 := by decide +kernel
    unfold fW at q
    rw [emp_app] at q
    rw [y1] at q a g1
    rw [y2] at q c g2
    walk_at "rd"
    refine ⟨by omega, by omega, cf1, by omega, by omega, cf2, by omega, by rw [strLen_append]; omega, q⟩
theorem ok_tops (T : Tx K mg A) : FnOk P A.wd K mg base CX0 2 A.f_law_tops A.fd_law_tops ["_law_found", "_law_many"] spTops := by
  have G_law_whole : FnOk P A.wd K mg base CX0 1 _ _ _ _ := ok_whole T
  refine T.F_law_tops.ok sc_law_tops (fun vs H Q E h => ?_) (fun cdv A' outer s H vs Q E hr h => ?_)
  · match vs, h with
    | [.ref r, .int m], _ => rfl
  · match vs, h with
    | [.ref r, .int m], ⟨ou, st, zs, hr', ho, hl, q⟩ =>
    have hu := hr.units
    have hr_law_whole : Room 1 _ := hr.mono (by decide)
    subst hl
    refine ⟨_, (pss_cons (ps_if (pw_or (pt_not (pt_valF (pe_callB (call_isT .tup) (by rfl) T.z_isinstance boot_isinstance (pa_cons (pvF 0) (pa_cons (pe_bltn (v := .ty "tuple") (u := .type "tuple") (by rfl) T.z_tuple rfl rfl) pa_nil))))) (pw_or (pt_cmpF (op_neM hu) (pe_callB call_lenM (by rfl) T.z_len boot_len (pa_cons (pvF 0) pa_nil)) pe_int (nomark _)) (pw_or (pt_not (pt_valF (pe_callB (call_isT .lst) (by rfl) T.z_isinstance boot_isinstance (pa_cons (pe_ix ix_M (pvF 0) pe_int (fun _ _ => rfl)) (pa_cons (pe_bltn (v := .ty "list") (u := .type "list") (by rfl) T.z_list rfl rfl) pa_nil))))) (pw_or1 (pt_cmpF (op_neM hu) (pe_callB call_lenM (by rfl) T.z_len boot_len (pa_cons (pe_ix ix_M (pvF 0) pe_int (fun _ _ => rfl)) pa_nil)) (pvF 1) (nomark _)))))).pt
      (pss_one (ps_ret pe_bl))
      pss_nil)
      (pss_cons (ps_forW PassesOwn.never rfl (pi_listF (pe_ix ix_M (pvF 0) pe_int (fun _ _ => rfl))) (pg_name (i := 2) sc_law_tops.nd rfl (Or.inl rfl))
      (pss_one (ps_if (pt_not (pt_valF (pe_call G_law_whole hr_law_whole (by rfl) T.m_law_whole T.F_law_whole.kp T.b_law_whole .nil pass0 (pa_cons (pvF 2) pa_nil))))
      (pss_one (ps_ret pe_bl))
      pss_nil)))
      (pss_one (ps_ret pe_bl)))), ?_⟩
    walk_at "rd*"
    rw [if_neg (by decide)]
    refine ⟨⟨_, SqL.of ho⟩, ?_⟩
    obtain ⟨Pv, pin, pout⟩ := opaqN (fun i σ H' => ∃ v : Option V, σ = [some (.ref r), some (.int zs.length), v] ∧ H' = H)
    refine forW_list (xs := zs.map V.int) Pv (pin _ _ _ ⟨_, rfl, rfl⟩) ?_ ?_ ?_
    · intro i σ H4 hi hp
      obtain ⟨v, rfl, rfl⟩ := pout _ _ _ hp
      exact SqL.of ho
    · intro i v σ H4 hv hp
      obtain ⟨v5, rfl, rfl⟩ := pout _ _ _ hp
      rw [List.getElem?_map] at hv
      obtain ⟨z, hz, rfl⟩ := Option.map_eq_some_iff.mp hv
      clear hv
      walk_at "rd"
      exact pin _ _ _ ⟨_, rfl, rfl⟩
    intro σ H4 hp
    obtain ⟨v5, rfl, rfl⟩ := pout _ _ _ hp
    walk_at "rd"
    exact q
theorem outs_slice (d : Dt) (b S : Int) (ss : List Rat) (ns : List Int) (a m : Nat) : ((outs d b S ss [] ns).drop a).take m = outs d b S ss (ns.take a) ((ns.drop a).take m) := by
  have e : outs d b S ss [] ns = outs d b S ss [] (ns.take a) ++ (outs d b S ss (ns.take a) ((ns.drop a).take m) ++ outs d b S ss (ns.take a ++ (ns.drop a).take m) ((ns.drop a).drop m)) := by
    rw [← outs_app, List.take_append_drop]
    conv => lhs; rw [← List.take_append_drop a ns]
    rw [outs_app, List.nil_append]
  rw [e]
  have l1 := outs_len d b S ss [] (ns.take a)
  have l2 := outs_len d b S ss (ns.take a) ((ns.drop a).take m)
  rcases Nat.lt_or_ge ns.length a with z | z
  · rw [List.drop_of_length_le (l := ns) (by omega), List.take_nil, List.drop_nil]
    rw [show ∀ x, outs d b S ss x [] = [] from fun x => rfl, show ∀ x, outs d b S ss x [] = [] from fun x => rfl, List.append_nil, List.append_nil, List.drop_of_length_le (by rw [l1, List.length_take]; omega), List.take_nil]
  · rw [List.length_take, Nat.min_eq_left z] at l1
    rw [List.drop_append, List.drop_of_length_le (by omega), l1, Nat.sub_self, List.drop_zero, List.nil_append]
    rcases Nat.lt_or_ge (ns.drop a).length m with y | y
    · rw [List.drop_of_length_le (l := ns.drop a) (i := m) (by omega), show ∀ x, outs d b S ss x [] = [] from fun x => rfl, List.append_nil, List.take_of_length_le (by rw [l2, List.length_take]; omega)]
    · rw [List.length_take, Nat.min_eq_left y] at l2
      rw [List.take_append_of_le_length (by omega), List.take_of_length_le (by omega)]
theorem grain_pos {A : Ad} {H : Hp} {o : Addr} {d : Dt} {S : Int} {ss : List Rat} (h : IsPS A H o d S ss) : 1 ≤ grainOf S d := by
  cases d with
  | gain y => have := y.den_pos; show (1 : Int) ≤ (y.den : Int); omega
  | delay n => exact Int.le_refl _
  | echo y n t =>
    have := y.den_pos
    show (1 : Int) ≤ (y.den : Int) ^ t
    exact Int.pow_pos (by omega)
  | back y n => have := y.den_pos; show (1 : Int) ≤ (y.den : Int); omega
  | hall y n => exact Int.le_refl _
  | swell cs =>
    obtain ⟨dx, _, ho, ct, ln, us, ps, rfl, hct, hln, TP, sok, R⟩ := h
    exact sok.2.2.2.1

theorem ok_wordL (T : Tx K mg A) : FnOk P A.wd K mg base CX0 3 A.f_law_word A.fd_law_word ["_law_cell"] spWordL := by
  have G_law_gain : FnOk P A.wd K mg base CX0 2 _ _ _ _ := ok_gainT T
  refine T.F_law_word.ok sc_law_word (fun vs H Q E h => ?_) (fun cdv A' outer s H vs Q E hr h => ?_)
  · match vs, h with
    | [.int c], _ => rfl
  · match vs, h with
    | [.int c], ⟨hc, k⟩ =>
    have hu := hr.units
    have hr_law_gain : Room 2 _ := hr.mono (by decide)
    have hs : sizeLine = 16777216 := sizeLine_eq
    refine ⟨_, (pss_cut (ps_set (i := 1) sc_law_word.nd rfl (Or.inl rfl) (pe_op of_mod (pe_op op_mulM (pvF 0) pe_int) (pe_op op_addM (pe_op of_pow pe_int pe_int) pe_int)))
      (pss_cons (ps_set (i := 2) sc_law_word.nd rfl (Or.inl rfl) (pe_ix ix_M (pe_lstS (pa_cons pe_str (pa_cons pe_str (pa_cons pe_str (pa_cons pe_str (pa_cons pe_str (pa_cons pe_str pa_nil))))))) (pe_op of_mod (pvF 1) pe_int) (fun _ _ => rfl)))
      (pss_cons (ps_set (i := 3) sc_law_word.nd rfl (Or.inl rfl) (pe_call G_law_gain hr_law_gain (by rfl) T.m_law_gain T.F_law_gain.kp T.b_law_gain .nil pass0 (pa_cons (pe_op of_fdiv (pvF 1) pe_int) (pa_cons (pe_cmpR (op_eqM hu) (pvF 2) pe_str (nomark _)) pa_nil))))
      (pss_cons (ps_set (i := 4) sc_law_word.nd rfl (Or.inl rfl) (pe_op op_addM pe_int (pe_op of_mod (pe_op of_fdiv (pvF 1) (pe_op of_pow pe_int pe_int)) pe_int)))
      (pss_cut (ps_if (pt_cmpF (op_eqM hu) (pe_op of_mod (pe_op of_fdiv (pvF 1) (pe_op of_pow pe_int pe_int)) pe_int) pe_int (nomark _))
      (pss_one (ps_set (i := 4) sc_law_word.nd rfl (Or.inl rfl) (pe_op op_addM pe_int (pe_op of_mod (pe_op of_fdiv (pvF 1) (pe_op of_pow pe_int pe_int)) pe_int))))
      pss_nil)
      (pss_cons (ps_if (pt_cmpF (op_eqM hu) (pvF 2) pe_str (nomark _))
      (pss_one (ps_ret (pe_op op_addM pe_str (pvF 3))))
      pss_nil)
      (pss_cons (ps_if (pt_cmpF (op_eqM hu) (pvF 2) pe_str (nomark _))
      (pss_one (ps_ret (pe_op op_addM pe_str (pe_callTy call_strF (by rfl) T.z_str boot_str (pa_cons (pe_op of_sub (pvF 4) pe_int) pa_nil)))))
      pss_nil)
      (pss_cons (ps_if (pt_cmpF (op_eqM hu) (pvF 2) pe_str (nomark _))
      (pss_one (ps_ret (pe_op op_addM (pe_op op_addM (pe_op op_addM (pe_op op_addM (pe_op op_addM pe_str (pvF 3)) pe_str) (pe_callTy call_strF (by rfl) T.z_str boot_str (pa_cons (pvF 4) pa_nil))) pe_str) (pe_callTy call_strF (by rfl) T.z_str boot_str (pa_cons (pe_op of_mod (pe_op of_fdiv (pvF 1) (pe_op of_pow pe_int pe_int)) pe_int) pa_nil)))))
      pss_nil)
      (pss_cons (ps_if (pt_cmpF (op_eqM hu) (pvF 2) pe_str (nomark _))
      (pss_cons (ps_set (i := 5) sc_law_word.nd rfl (Or.inl rfl) (pe_lstS pa_nil))
      (pss_cons (ps_forW PassesOwn.never rfl (pi_range1F (by rfl) T.z_range (pa_cons (pe_op op_addM pe_int (pe_op of_mod (pe_op of_fdiv (pvF 1) (pe_op of_pow pe_int pe_int)) pe_int)) pa_nil)) (pg_name (i := 6) sc_law_word.nd rfl (Or.inl rfl))
      (pss_cons (ps_set (i := 7) sc_law_word.nd rfl (Or.inl rfl) (pe_op op_addM (pvF 4) (pe_op op_mulM (pvF 6) (pe_op op_addM pe_int (pe_op of_mod (pe_op of_fdiv (pvF 1) (pe_op of_pow pe_int pe_int)) pe_int)))))
      (pss_one (ps_expr (pe_bmF isLst_ty PySem.F.plainAttrs_list PySem.F.slot_list_append PySem.F.type_list_append mt_appendF (pvF 5) (pa_cons (pe_op op_addM (pe_op op_addM (pe_callTy call_strF (by rfl) T.z_str boot_str (pa_cons (pvF 7) pa_nil)) pe_str) (pe_call G_law_gain hr_law_gain (by rfl) T.m_law_gain T.F_law_gain.kp T.b_law_gain .nil pass0 (pa_cons (pe_op of_fdiv (pvF 1) (pe_op op_mulM pe_int (pe_op op_addM (pvF 6) pe_int))) (pa_cons pe_bl pa_nil)))) pa_nil))))))
      (pss_one (ps_ret (pe_op op_addM pe_str (pe_bmF isStrV_ty PySem.F.plainAttrs_str PySem.F.slot_str_join PySem.F.type_str_join mt_joinF pe_str (pa_cons (pvF 5) pa_nil)))))))
      pss_nil)
      (pss_one (ps_ret (pe_op op_addM (pe_op op_addM (pe_op op_addM (pe_op op_addM (pvF 2) pe_str) (pvF 3)) pe_str) (pe_callTy call_strF (by rfl) T.z_str boot_str (pa_cons (pvF 4) pa_nil)))))))))))))), ?_⟩
    have fM := fm_bnd (c * 618033988749894848204587) (b := 1000000000000000000000007) (by decide)
    obtain ⟨Mid, min', mout⟩ := opaq (fun σ' H' => ∃ M : Int, σ' = [some (.int c), some (.int M), none, none, none, none, none, none] ∧ H' = H ∧ 0 ≤ M ∧ intBits M ≤ 90)
    refine ⟨Mid, ?_, ?_⟩
    · walk_at "rd"
      refine ⟨by walk_at "mul", by decide, min' _ _ ⟨_, rfl, rfl, fM.1, intBits_le_iff.mpr ?_⟩⟩
      exact Nat.lt_of_le_of_lt (by omega : ((c * 618033988749894848204587).fmod 1000000000000000000000007).natAbs ≤ 1000000000000000000000007) (by decide)
    clear fM
    intro σ' H' hm
    obtain ⟨M, rfl, rfl, M0, bM⟩ := mout _ _ hm
    have f6 := fm_bnd M (b := 6) (by decide)
    have bF : ∀ b : Int, intBits (M.fdiv b) ≤ 90 := fun b => intBits_fdiv_le bM
    walk_at "rd"
    refine ⟨by omega, fun kl H1 n1 S1 h1 => ?_⟩
    obtain ⟨ks, ha, hks⟩ : ∃ ks : Str, atI [V.str (Str.ofString "gain"), V.str (Str.ofString "delay"), V.str (Str.ofString "echo"), V.str (Str.ofString "back"), V.str (Str.ofString "hall"), V.str (Str.ofString "swell")] (M.fmod 6) = some (.str ks) ∧ (ks = Str.ofString "gain" ∨ ks = Str.ofString "delay" ∨ ks = Str.ofString "echo" ∨ ks = Str.ofString "back" ∨ ks = Str.ofString "hall" ∨ ks = Str.ofString "swell") := by
      rcases (by omega : M.fmod 6 = 0 ∨ M.fmod 6 = 1 ∨ M.fmod 6 = 2 ∨ M.fmod 6 = 3 ∨ M.fmod 6 = 4 ∨ M.fmod 6 = 5) with z | z | z | z | z | z <;> rw [z]
      · exact ⟨_, rfl, .inl rfl⟩
      · exact ⟨_, rfl, .inr (.inl rfl)⟩
      · exact ⟨_, rfl, .inr (.inr (.inl rfl))⟩
      · exact ⟨_, rfl, .inr (.inr (.inr (.inl rfl)))⟩
      · exact ⟨_, rfl, .inr (.inr (.inr (.inr (.inl rfl))))⟩
      · exact ⟨_, rfl, .inr (.inr (.inr (.inr (.inr rfl))))⟩
    have f9 := fm_bnd (M.fdiv 100000000) (b := 9) (by decide)
    have f300 := fm_bnd (M.fdiv 10000000000) (b := 300) (by decide)
    have f5 := fm_bnd (M.fdiv 10000000000000) (b := 5) (by decide)
    have f3 := fm_bnd (M.fdiv 10000000000000) (b := 3) (by decide)
    have g9 := fm_bnd (M.fdiv 100000000000000) (b := 9) (by decide)
    walk_at "rd*"
    refine ⟨⟨by decide, by decide⟩, Nat.le_trans (bF 6) (by decide), fun y oy y4 => ⟨by decide, ⟨by decide, by decide⟩, ?_⟩⟩
    clear ha h1
    obtain ⟨Mid2, min2, mout2⟩ := opaq (fun σ' H' => ∃ n : Nat, σ' = [some (.int c), some (.int M), some (.str ks), some (.str (fW y)), some (.int n), none, none, none] ∧ H' = H1 ∧ 1 ≤ n ∧ n ≤ 300)
    refine ⟨Mid2, ?_, ?_⟩
    · walk_at "rd"
      refine ⟨by decide, ⟨by decide, by decide⟩, ?_⟩
      split
      · refine ⟨by decide, ⟨by decide, by decide⟩, min2 _ _ ⟨(1 + (M.fdiv 10000000000).fmod 300).toNat, by rw [Int.toNat_of_nonneg (by omega)], rfl, by omega, by omega⟩⟩
      · refine min2 _ _ ⟨(1 + (M.fdiv 100000000).fmod 9).toNat, by rw [Int.toNat_of_nonneg (by omega)], rfl, by omega, by omega⟩
    intro σ' H2 hm2
    obtain ⟨n, rfl, rfl, n1', n2'⟩ := mout2 _ _ hm2
    have fl := fW_len oy.b.1 oy.b.2
    have nl := nW_len (n := n) (Nat.lt_of_le_of_lt n2' (by decide))
    have g0 := log_of (t := (n : Int)) (n := 20) (by omega) (by decide)
    have ec : (Str.ofString ":").length = 1 := by decide +kernel
    have ne (a b : String) (hk : ks = Str.ofString a) (h : Str.ofString a ≠ Str.ofString b) : (ks = Str.ofString b) = False := by
      rw [hk]
      exact eq_false h
    unfold nW at nl
    clear f6 f9 f300 hm2 hm min' mout min2 mout2
    rcases hks with hk | hk | hk | hk | hk | hk
    · have hk' : id (ks = Str.ofString "gain") := hk
      have hT : (ks = Str.ofString "gain") = True := eq_true hk
      clear ne hk
      walk_at "rd*"
      have l1 : (Str.ofString "gain:").length = 5 := by decide +kernel
      refine ⟨by omega, ?_⟩
      rw [v_gain]
      exact k _ _ oy S1
    · have hk' : id (ks = Str.ofString "delay") := hk
      have hT : (ks = Str.ofString "delay") = True := eq_true hk
      have e_gain := ne "delay" "gain" hk (by decide +kernel)
      clear ne hk
      walk_at "rd*"
      have l2 : (Str.ofString "delay:").length = 6 := by decide +kernel
      have em : (n : Int) - 1 = ((n - 1 : Nat) : Int) := by omega
      have nl2 := nW_len (n := n - 1) (by omega)
      have g2 := log_of (t := ((n - 1 : Nat) : Int)) (n := 20) (by omega) (by decide)
      have v := v_delay (n - 1)
      unfold nW at nl2 v
      rw [em]
      refine ⟨by omega, by omega, ?_⟩
      rw [v]
      exact k (.delay (n - 1)) _ (show n - 1 ≤ 1000 by omega) S1
    · have hk' : id (ks = Str.ofString "echo") := hk
      have hT : (ks = Str.ofString "echo") = True := eq_true hk
      have e_gain := ne "echo" "gain" hk (by decide +kernel)
      have e_delay := ne "echo" "delay" hk (by decide +kernel)
      clear ne hk
      walk_at "rd*"
      have l3 : (Str.ofString "echo:").length = 5 := by decide +kernel
      obtain ⟨t, et⟩ : ∃ t : Nat, (M.fdiv 10000000000000).fmod 5 = (t : Int) := ⟨((M.fdiv 10000000000000).fmod 5).toNat, by omega⟩
      have tl := nW_len (n := t) (by omega)
      have g2 := log_of (t := (t : Int)) (n := 20) (by omega) (by decide)
      have v := v_echo y n t
      unfold nW at tl v
      rw [et]
      simp only [strLen_append]
      refine ⟨by omega, by omega, by omega, by omega, by omega, by decide, ⟨by decide, by decide⟩, by omega, by omega, ?_⟩
      rw [v]
      exact k (.echo y n t) _ ⟨oy, by omega, by omega, by omega⟩ S1
    · have hk' : id (ks = Str.ofString "back") := hk
      have hT : (ks = Str.ofString "back") = True := eq_true hk
      have e_gain := ne "back" "gain" hk (by decide +kernel)
      have e_delay := ne "back" "delay" hk (by decide +kernel)
      have e_echo := ne "back" "echo" hk (by decide +kernel)
      have e_swell := ne "back" "swell" hk (by decide +kernel)
      clear ne hk
      walk_at "rd*"
      have l4 : ks.length = 4 := by rw [show ks = _ from hk']; decide +kernel
      have v := v_back y n
      unfold nW at v
      simp only [strLen_append]
      refine ⟨by omega, by omega, by omega, by omega, by omega, ?_⟩
      rw [show ks = _ from hk', v]
      exact k (.back y n) _ ⟨oy, by omega, by omega⟩ S1
    · have hk' : id (ks = Str.ofString "hall") := hk
      have hT : (ks = Str.ofString "hall") = True := eq_true hk
      have e_gain := ne "hall" "gain" hk (by decide +kernel)
      have e_delay := ne "hall" "delay" hk (by decide +kernel)
      have e_echo := ne "hall" "echo" hk (by decide +kernel)
      have e_swell := ne "hall" "swell" hk (by decide +kernel)
      clear ne hk
      walk_at "rd*"
      have l4 : ks.length = 4 := by rw [show ks = _ from hk']; decide +kernel
      have v := v_hall y n
      unfold nW at v
      simp only [strLen_append]
      refine ⟨by omega, by omega, by omega, by omega, by omega, ?_⟩
      rw [show ks = _ from hk', v]
      exact k (.hall y n) _ ⟨oy, y4 hk', by omega, by omega⟩ S1
    · have hk' : id (ks = Str.ofString "swell") := hk
      have hT : (ks = Str.ofString "swell") = True := eq_true hk
      have e_gain := ne "swell" "gain" hk (by decide +kernel)
      have e_delay := ne "swell" "delay" hk (by decide +kernel)
      have e_echo := ne "swell" "echo" hk (by decide +kernel)
      clear ne hk
      walk_at "rd*"
      have l6 : (Str.ofString "swell:").length = 6 := by decide +kernel
      refine fun lc H3 n3 S3 h3 => ?_
      walk_at "rd"
      obtain ⟨m3, em3⟩ : ∃ m3 : Nat, 1 + (M.fdiv 10000000000000).fmod 3 = (m3 : Int) := ⟨(1 + (M.fdiv 10000000000000).fmod 3).toNat, by omega⟩
      obtain ⟨st, est⟩ : ∃ st : Nat, 1 + (M.fdiv 100000000000000).fmod 9 = (st : Int) := ⟨(1 + (M.fdiv 100000000000000).fmod 9).toNat, by omega⟩
      rw [em3]
      refine ⟨by decide, ⟨by decide, by decide⟩, by omega, by omega, ?_⟩
      rw [Int.toNat_natCast]
      obtain ⟨Pv, pin, pout⟩ := opaqN (fun i σ H' => ∃ (v6 v7 : Option V) (cs : List (Int × Rat)), σ = [some (.int c), some (.int M), some (.str ks), some (.str (fW y)), some (.int n), some (.ref lc), v6, v7] ∧ Same H2 H' ∧ H' lc = some (.lst ((cs.map cW).map V.str)) ∧ cs.length = i ∧ ∀ (j : Nat) c, cs[j]? = some c → c.1 = (n : Int) + (j : Int) * (st : Int) ∧ YOk c.2)
      refine forW_range (lo := 0) Pv (pin _ _ _ ⟨_, _, [], rfl, S3, h3, rfl, fun j c e => by simp at e⟩) ?_ ?_
      · intro i σ H4 hi hp
        obtain ⟨v6, v7, cs, rfl, S4, h4, cl, C⟩ := pout _ _ _ hp
        have ims : IntMulOk (i : Int) (st : Int) := IntMulOk.of_left (intBits_le_64 (by omega) (by omega))
        have im2 : IntMulOk 1000 ((i : Int) + 1) := IntMulOk.of_left (by decide)
        have cf2 : CFd M (1000 * ((i : Int) + 1)) := ⟨by omega, Nat.le_trans (intBits_le_64 (by omega) (by omega)) (by decide)⟩
        have cf3 : CFd M 100000000000000 := ⟨by decide, by decide⟩
        have e1 : (Str.ofString "=").length = 1 := by decide +kernel
        have mi : (i : Int) * (st : Int) ≤ 2 * 9 := Int.mul_le_mul (by omega) (by omega) (by omega) (by omega)
        have mi0 : 0 ≤ (i : Int) * (st : Int) := Int.mul_nonneg (by omega) (by omega)
        clear h3 hp
        walk_at "rd*"
        refine ⟨by decide, ?_⟩
        have al := int_len (t := (n : Int) + (i : Int) * (st : Int)) (n := 20) (by omega) (by decide)
        have ag := log_of (t := (n : Int) + (i : Int) * (st : Int)) (n := 20) (by omega) (by decide)
        refine ⟨by omega, by omega, Nat.le_trans (bF _) (by decide), fun z oz _ => ?_⟩
        have zl := fW_len oz.b.1 oz.b.2
        refine ⟨by rw [strLen_append]; omega, by omega, ?_⟩
        rintro _ H5 ⟨rfl, B5, h5⟩
        rw [show Str.ofString (toString ((n : Int) + (i : Int) * (st : Int))) ++ Str.ofString "=" ++ fW z = cW ((n : Int) + (i : Int) * (st : Int), z) from v_corner ((n : Int) + (i : Int) * (st : Int), z)] at h5
        refine pin _ _ _ ⟨_, _, cs ++ [((n : Int) + (i : Int) * (st : Int), z)], rfl, S4.step n3 B5, by rw [h5, List.map_append, List.map_append]; rfl, by rw [List.length_append, cl]; rfl, fun j c e => ?_⟩
        rcases Nat.lt_or_ge j cs.length with hj | hj
        · rw [List.getElem?_append_left hj] at e
          exact C j c e
        · rw [List.getElem?_append_right hj] at e
          have hj0 : j - cs.length = 0 := by
            rcases Nat.eq_zero_or_pos (j - cs.length) with z | z
            · exact z
            · rw [List.getElem?_eq_none (by rw [List.length_singleton]; omega)] at e
              cases e
          rw [hj0] at e
          cases e
          have ji : j = i := by omega
          subst ji
          exact ⟨rfl, oz⟩
      · intro σ H4 hp
        obtain ⟨v6, v7, cs, rfl, S4, h4, cl, C⟩ := pout _ _ _ hp
        have ok : CsOk cs := by
          refine ⟨fun c hc => ?_, fun i c d hc hd => ?_, by omega, by omega⟩
          · obtain ⟨j, hj⟩ := List.mem_iff_getElem?.mp hc
            have lj := (List.getElem?_eq_some_iff.mp hj).1
            obtain ⟨a, b⟩ := C j c hj
            have mi : (j : Int) * (st : Int) ≤ 2 * 9 := Int.mul_le_mul (by omega) (by omega) (by omega) (by omega)
            have mi0 : 0 ≤ (j : Int) * (st : Int) := Int.mul_nonneg (by omega) (by omega)
            exact ⟨by omega, by omega, b⟩
          · have a := (C i c hc).1
            have b := (C (i + 1) d hd).1
            rw [a, b, Int.natCast_add, Int.add_mul]
            omega
        have e2 : (Str.ofString ",").length = 1 := by decide +kernel
        have cl' := ok.len
        have jo : JoinOk (Str.ofString ",") (cs.map cW) = true := joinOk_of (n := 45) (fun y hy => by obtain ⟨c, hc, rfl⟩ := List.mem_map.mp hy; exact cl' c hc) (by rw [List.length_map, e2, hs]; omega)
        have jl : (Txt.join (Str.ofString ",") (cs.map cW)).length ≤ 600 := by
          rw [tj_eq, t_com]
          exact ok.jlen
        clear h3 hp
        walk_at "rd*"
        refine ⟨cs.map cW, rfl, jo, by omega, ?_⟩
        rw [v_swell]
        exact k _ _ ok (S1.trans S4)

theorem ok_law (T : Tx K mg A) : FnOk P A.wd K mg base CX0 9 A.f_law A.fd_law ["_law_script"] (spLawOf 63 K) := by
  have G_law_cell_at : FnOk P A.wd K mg base CX0 1 _ _ _ _ := ok_cell T
  have G_law_whole : FnOk P A.wd K mg base CX0 1 _ _ _ _ := ok_whole T
  have G_law_word : FnOk P A.wd K mg base CX0 3 _ _ _ _ := ok_wordL T
  have G_law_tops : FnOk P A.wd K mg base CX0 2 _ _ _ _ := ok_tops T
  have G_law_tone : FnOk P A.wd K mg base CX0 1 _ _ _ _ := ok_tone4 T
  have G_part_of : FnOk P A.wd K mg base CX0 8 _ _ _ _ := ok_part T
  have G_Part_fresh : FnOk P A.wd K mg base CX0 1 _ _ _ _ := ok_fresh T
  have G_Swell_fresh : FnOk P A.wd K mg base CX0 1 _ _ _ _ := ok_swfresh T
  have G_Part_grain : FnOk P A.wd K mg base CX0 1 _ _ _ _ := ok_pgrain T
  have G_Gain_grain : FnOk P A.wd K mg base CX0 1 _ _ _ _ := ok_grGain T
  have G_Echo_grain : FnOk P A.wd K mg base CX0 1 _ _ _ _ := ok_grEcho T
  have G_Back_grain : FnOk P A.wd K mg base CX0 1 _ _ _ _ := ok_grBack T
  have G_Swell_grain : FnOk P A.wd K mg base CX0 1 _ _ _ _ := ok_grSwell T
  have G_Gain_through : FnOk P A.wd K mg base CX0 2 _ _ _ _ := ok_thGain T
  have G_Delay_through : FnOk P A.wd K mg base CX0 2 _ _ _ _ := ok_thDelay T
  have G_Echo_through : FnOk P A.wd K mg base CX0 2 _ _ _ _ := ok_thEcho T
  have G_Back_through : FnOk P A.wd K mg base CX0 2 _ _ _ _ := ok_thBack T
  have G_Hall_through : FnOk P A.wd K mg base CX0 2 _ _ _ _ := ok_thHall T
  have G_Swell_through : FnOk P A.wd K mg base CX0 3 _ _ _ _ := ok_thSwell T
  refine T.F_law.ok sc_law (fun vs H Q E h => ?_) (fun cdv A' outer s H vs Q E hr h => ?_)
  · obtain ⟨a, ns, rfl, _⟩ := h
    rfl
  · obtain ⟨a, ns, rfl, hS, hl, hbit, hO, q⟩ := h
    have hu := hr.units
    have hr_law_cell_at : Room 1 _ := hr.mono (by decide)
    have hr_law_whole : Room 1 _ := hr.mono (by decide)
    have hr_law_word : Room 3 _ := hr.mono (by decide)
    have hr_law_tops : Room 2 _ := hr.mono (by decide)
    have hr_law_tone : Room 1 _ := hr.mono (by decide)
    have hr_part_of : Room 8 _ := hr.mono (by decide)
    have hr_Part_fresh : Room 1 _ := hr.mono (by decide)
    have hr_Swell_fresh : Room 1 _ := hr.mono (by decide)
    have hr_Part_grain : Room 1 _ := hr.mono (by decide)
    have hr_Gain_grain : Room 1 _ := hr.mono (by decide)
    have hr_Echo_grain : Room 1 _ := hr.mono (by decide)
    have hr_Back_grain : Room 1 _ := hr.mono (by decide)
    have hr_Swell_grain : Room 1 _ := hr.mono (by decide)
    have hr_Gain_through : Room 2 _ := hr.mono (by decide)
    have hr_Delay_through : Room 2 _ := hr.mono (by decide)
    have hr_Echo_through : Room 2 _ := hr.mono (by decide)
    have hr_Back_through : Room 2 _ := hr.mono (by decide)
    have hr_Hall_through : Room 2 _ := hr.mono (by decide)
    have hr_Swell_through : Room 3 _ := hr.mono (by decide)
    have hs : sizeLine = 16777216 := sizeLine_eq
    have bc : ∀ k : Nat, intBits (ns.getD k 0) ≤ 1048576 := fun k => getD_bits hbit k
    refine ⟨_, (pss_pause (ps_set (i := 1) sc_law.nd rfl (Or.inl rfl) (pe_call G_part_of hr_part_of (by rfl) T.m_part_of T.F_part_of.kp T.b_part_of .nil pass0 (pa_cons (pe_call G_law_word hr_law_word (by rfl) T.m_law_word T.F_law_word.kp T.b_law_word .nil pass0 (pa_cons (pe_call G_law_cell_at hr_law_cell_at (by rfl) T.m_law_cell_at T.F_law_cell_at.kp T.b_law_cell_at .nil pass0 (pa_cons (pvF 0) (pa_cons pe_int pa_nil))) pa_nil)) pa_nil)))
      (pss_cons (ps_set (i := 2) sc_law.nd rfl (Or.inl rfl) (pe_callB call_absF (by rfl) T.z_abs boot_abs (pa_cons (pe_call G_law_cell_at hr_law_cell_at (by rfl) T.m_law_cell_at T.F_law_cell_at.kp T.b_law_cell_at .nil pass0 (pa_cons (pvF 0) (pa_cons pe_int pa_nil))) pa_nil)))
      (pss_pause (ps_set (i := 3) sc_law.nd rfl (Or.inl rfl) (pe_op op_addM pe_int (pe_op of_mod (pvF 2) pe_int)))
      (pss_cons (ps_setC (i := 4) sc_law.nd rfl rfl (pi_listF (pe_slice sl_KF (pvF 0) (po_someF pe_int) (po_someF pe_int))) (fun _ _ _ _ _ => (pe_call G_law_tone hr_law_tone (by rfl) T.m_law_tone T.F_law_tone.kp T.b_law_tone .nil pass0 (pa_cons (pvF 0) pa_nil))) (compS (sc := defScope s_law) (N := ["_law_script", "_law_part", "_law_turn", "_law_bottom", "_law_tones", "_law_grain", "_law_once", "_law_state", "_law_at", "_law_turns", "_law_many", "_law_block", "_law_found", "_law_again", "_law_first"]) rfl rfl (by decide +kernel)) rfl)
      (pss_cons (ps_set (i := 5) sc_law.nd rfl (Or.inl rfl) (pe_either (pe_meth0F (pvF 1) T.cl_Gain T.me_Gain_grain G_Gain_grain hr_Gain_grain T.b_Gain_grain .nil pass0) (pe_either (pe_meth0F (pvF 1) T.cl_Delay T.me_Delay_grain G_Part_grain hr_Part_grain T.b_Part_grain .nil pass0) (pe_either (pe_meth0F (pvF 1) T.cl_Echo T.me_Echo_grain G_Echo_grain hr_Echo_grain T.b_Echo_grain .nil pass0) (pe_either (pe_meth0F (pvF 1) T.cl_Back T.me_Back_grain G_Back_grain hr_Back_grain T.b_Back_grain .nil pass0) (pe_either (pe_meth0F (pvF 1) T.cl_Hall T.me_Hall_grain G_Part_grain hr_Part_grain T.b_Part_grain .nil pass0) (pe_meth0F (pvF 1) T.cl_Swell T.me_Swell_grain G_Swell_grain hr_Swell_grain T.b_Swell_grain .nil pass0)))))))
      (pss_cons (ps_set (i := 6) sc_law.nd rfl (Or.inl rfl) (pe_either (pe_methF (pvF 1) T.cl_Gain T.me_Gain_through G_Gain_through hr_Gain_through T.b_Gain_through .nil pass0 (pa_cons (pe_either (pe_meth0F (pvF 1) T.cl_Gain T.me_Gain_fresh G_Part_fresh hr_Part_fresh T.b_Part_fresh .nil pass0) (pe_either (pe_meth0F (pvF 1) T.cl_Delay T.me_Delay_fresh G_Part_fresh hr_Part_fresh T.b_Part_fresh .nil pass0) (pe_either (pe_meth0F (pvF 1) T.cl_Echo T.me_Echo_fresh G_Part_fresh hr_Part_fresh T.b_Part_fresh .nil pass0) (pe_either (pe_meth0F (pvF 1) T.cl_Back T.me_Back_fresh G_Part_fresh hr_Part_fresh T.b_Part_fresh .nil pass0) (pe_either (pe_meth0F (pvF 1) T.cl_Hall T.me_Hall_fresh G_Part_fresh hr_Part_fresh T.b_Part_fresh .nil pass0) (pe_meth0F (pvF 1) T.cl_Swell T.me_Swell_fresh G_Swell_fresh hr_Swell_fresh T.b_Swell_fresh .nil pass0)))))) (pa_cons (pe_callTy call_listF (by rfl) T.z_list boot_list (pa_cons (pvF 4) pa_nil)) (pa_cons (pvF 3) pa_nil)))) (pe_either (pe_methF (pvF 1) T.cl_Delay T.me_Delay_through G_Delay_through hr_Delay_through T.b_Delay_through .nil pass0 (pa_cons (pe_either (pe_meth0F (pvF 1) T.cl_Gain T.me_Gain_fresh G_Part_fresh hr_Part_fresh T.b_Part_fresh .nil pass0) (pe_either (pe_meth0F (pvF 1) T.cl_Delay T.me_Delay_fresh G_Part_fresh hr_Part_fresh T.b_Part_fresh .nil pass0) (pe_either (pe_meth0F (pvF 1) T.cl_Echo T.me_Echo_fresh G_Part_fresh hr_Part_fresh T.b_Part_fresh .nil pass0) (pe_either (pe_meth0F (pvF 1) T.cl_Back T.me_Back_fresh G_Part_fresh hr_Part_fresh T.b_Part_fresh .nil pass0) (pe_either (pe_meth0F (pvF 1) T.cl_Hall T.me_Hall_fresh G_Part_fresh hr_Part_fresh T.b_Part_fresh .nil pass0) (pe_meth0F (pvF 1) T.cl_Swell T.me_Swell_fresh G_Swell_fresh hr_Swell_fresh T.b_Swell_fresh .nil pass0)))))) (pa_cons (pe_callTy call_listF (by rfl) T.z_list boot_list (pa_cons (pvF 4) pa_nil)) (pa_cons (pvF 3) pa_nil)))) (pe_either (pe_methF (pvF 1) T.cl_Echo T.me_Echo_through G_Echo_through hr_Echo_through T.b_Echo_through .nil pass0 (pa_cons (pe_either (pe_meth0F (pvF 1) T.cl_Gain T.me_Gain_fresh G_Part_fresh hr_Part_fresh T.b_Part_fresh .nil pass0) (pe_either (pe_meth0F (pvF 1) T.cl_Delay T.me_Delay_fresh G_Part_fresh hr_Part_fresh T.b_Part_fresh .nil pass0) (pe_either (pe_meth0F (pvF 1) T.cl_Echo T.me_Echo_fresh G_Part_fresh hr_Part_fresh T.b_Part_fresh .nil pass0) (pe_either (pe_meth0F (pvF 1) T.cl_Back T.me_Back_fresh G_Part_fresh hr_Part_fresh T.b_Part_fresh .nil pass0) (pe_either (pe_meth0F (pvF 1) T.cl_Hall T.me_Hall_fresh G_Part_fresh hr_Part_fresh T.b_Part_fresh .nil pass0) (pe_meth0F (pvF 1) T.cl_Swell T.me_Swell_fresh G_Swell_fresh hr_Swell_fresh T.b_Swell_fresh .nil pass0)))))) (pa_cons (pe_callTy call_listF (by rfl) T.z_list boot_list (pa_cons (pvF 4) pa_nil)) (pa_cons (pvF 3) pa_nil)))) (pe_either (pe_methF (pvF 1) T.cl_Back T.me_Back_through G_Back_through hr_Back_through T.b_Back_through .nil pass0 (pa_cons (pe_either (pe_meth0F (pvF 1) T.cl_Gain T.me_Gain_fresh G_Part_fresh hr_Part_fresh T.b_Part_fresh .nil pass0) (pe_either (pe_meth0F (pvF 1) T.cl_Delay T.me_Delay_fresh G_Part_fresh hr_Part_fresh T.b_Part_fresh .nil pass0) (pe_either (pe_meth0F (pvF 1) T.cl_Echo T.me_Echo_fresh G_Part_fresh hr_Part_fresh T.b_Part_fresh .nil pass0) (pe_either (pe_meth0F (pvF 1) T.cl_Back T.me_Back_fresh G_Part_fresh hr_Part_fresh T.b_Part_fresh .nil pass0) (pe_either (pe_meth0F (pvF 1) T.cl_Hall T.me_Hall_fresh G_Part_fresh hr_Part_fresh T.b_Part_fresh .nil pass0) (pe_meth0F (pvF 1) T.cl_Swell T.me_Swell_fresh G_Swell_fresh hr_Swell_fresh T.b_Swell_fresh .nil pass0)))))) (pa_cons (pe_callTy call_listF (by rfl) T.z_list boot_list (pa_cons (pvF 4) pa_nil)) (pa_cons (pvF 3) pa_nil)))) (pe_either (pe_methF (pvF 1) T.cl_Hall T.me_Hall_through G_Hall_through hr_Hall_through T.b_Hall_through .nil pass0 (pa_cons (pe_either (pe_meth0F (pvF 1) T.cl_Gain T.me_Gain_fresh G_Part_fresh hr_Part_fresh T.b_Part_fresh .nil pass0) (pe_either (pe_meth0F (pvF 1) T.cl_Delay T.me_Delay_fresh G_Part_fresh hr_Part_fresh T.b_Part_fresh .nil pass0) (pe_either (pe_meth0F (pvF 1) T.cl_Echo T.me_Echo_fresh G_Part_fresh hr_Part_fresh T.b_Part_fresh .nil pass0) (pe_either (pe_meth0F (pvF 1) T.cl_Back T.me_Back_fresh G_Part_fresh hr_Part_fresh T.b_Part_fresh .nil pass0) (pe_either (pe_meth0F (pvF 1) T.cl_Hall T.me_Hall_fresh G_Part_fresh hr_Part_fresh T.b_Part_fresh .nil pass0) (pe_meth0F (pvF 1) T.cl_Swell T.me_Swell_fresh G_Swell_fresh hr_Swell_fresh T.b_Swell_fresh .nil pass0)))))) (pa_cons (pe_callTy call_listF (by rfl) T.z_list boot_list (pa_cons (pvF 4) pa_nil)) (pa_cons (pvF 3) pa_nil)))) (pe_methF (pvF 1) T.cl_Swell T.me_Swell_through G_Swell_through hr_Swell_through T.b_Swell_through .nil pass0 (pa_cons (pe_either (pe_meth0F (pvF 1) T.cl_Gain T.me_Gain_fresh G_Part_fresh hr_Part_fresh T.b_Part_fresh .nil pass0) (pe_either (pe_meth0F (pvF 1) T.cl_Delay T.me_Delay_fresh G_Part_fresh hr_Part_fresh T.b_Part_fresh .nil pass0) (pe_either (pe_meth0F (pvF 1) T.cl_Echo T.me_Echo_fresh G_Part_fresh hr_Part_fresh T.b_Part_fresh .nil pass0) (pe_either (pe_meth0F (pvF 1) T.cl_Back T.me_Back_fresh G_Part_fresh hr_Part_fresh T.b_Part_fresh .nil pass0) (pe_either (pe_meth0F (pvF 1) T.cl_Hall T.me_Hall_fresh G_Part_fresh hr_Part_fresh T.b_Part_fresh .nil pass0) (pe_meth0F (pvF 1) T.cl_Swell T.me_Swell_fresh G_Swell_fresh hr_Swell_fresh T.b_Swell_fresh .nil pass0)))))) (pa_cons (pe_callTy call_listF (by rfl) T.z_list boot_list (pa_cons (pvF 4) pa_nil)) (pa_cons (pvF 3) pa_nil))))))))))
      (pss_cons (ps_if (pw_or (pt_not (pt_valF (pe_call G_law_tops hr_law_tops (by rfl) T.m_law_tops T.F_law_tops.kp T.b_law_tops .nil pass0 (pa_cons (pvF 6) (pa_cons (pe_callB call_lenM (by rfl) T.z_len boot_len (pa_cons (pvF 4) pa_nil)) pa_nil))))) (pw_or (pt_not (pt_valF (pe_call G_law_whole hr_law_whole (by rfl) T.m_law_whole T.F_law_whole.kp T.b_law_whole .nil pass0 (pa_cons (pvF 5) pa_nil)))) (pw_or1 (pt_cmpF of_lt (pvF 5) pe_int (nomark _))))).pt
      (pss_one (ps_ret pe_bl))
      pss_nil)
      (pss_cons (ps_set (i := 7) sc_law.nd rfl (Or.inl rfl) (pe_either (pe_meth0F (pvF 1) T.cl_Gain T.me_Gain_fresh G_Part_fresh hr_Part_fresh T.b_Part_fresh .nil pass0) (pe_either (pe_meth0F (pvF 1) T.cl_Delay T.me_Delay_fresh G_Part_fresh hr_Part_fresh T.b_Part_fresh .nil pass0) (pe_either (pe_meth0F (pvF 1) T.cl_Echo T.me_Echo_fresh G_Part_fresh hr_Part_fresh T.b_Part_fresh .nil pass0) (pe_either (pe_meth0F (pvF 1) T.cl_Back T.me_Back_fresh G_Part_fresh hr_Part_fresh T.b_Part_fresh .nil pass0) (pe_either (pe_meth0F (pvF 1) T.cl_Hall T.me_Hall_fresh G_Part_fresh hr_Part_fresh T.b_Part_fresh .nil pass0) (pe_meth0F (pvF 1) T.cl_Swell T.me_Swell_fresh G_Swell_fresh hr_Swell_fresh T.b_Swell_fresh .nil pass0)))))))
      (pss_cons (ps_set (i := 8) sc_law.nd rfl (Or.inl rfl) pe_int)
      (pss_cons (ps_set (i := 9) sc_law.nd rfl (Or.inl rfl) pe_int)
      (pss_cons (ps_whileW PassesOwn.never (pt_cmpF of_lt (pvF 8) (pe_callB call_lenM (by rfl) T.z_len boot_len (pa_cons (pvF 4) pa_nil)) (nomark _))
      (pss_cons (ps_set (i := 10) sc_law.nd rfl (Or.inl rfl) (pe_op of_mod (pe_op op_addM (pe_op of_fdiv (pvF 2) pe_int) (pe_op op_mulM (pvF 9) (pvF 9))) pe_int))
      (pss_cons (ps_set (i := 11) sc_law.nd rfl (Or.inl rfl) (pe_slice sl_A (pvF 4) (po_someF (pvF 8)) (po_someF (pe_op op_addM (pvF 8) (pvF 10)))))
      (pss_cons (ps_set (i := 12) sc_law.nd rfl (Or.inl rfl) (pe_either (pe_methF (pvF 1) T.cl_Gain T.me_Gain_through G_Gain_through hr_Gain_through T.b_Gain_through .nil pass0 (pa_cons (pvF 7) (pa_cons (pe_callTy call_listF (by rfl) T.z_list boot_list (pa_cons (pvF 11) pa_nil)) (pa_cons (pvF 3) pa_nil)))) (pe_either (pe_methF (pvF 1) T.cl_Delay T.me_Delay_through G_Delay_through hr_Delay_through T.b_Delay_through .nil pass0 (pa_cons (pvF 7) (pa_cons (pe_callTy call_listF (by rfl) T.z_list boot_list (pa_cons (pvF 11) pa_nil)) (pa_cons (pvF 3) pa_nil)))) (pe_either (pe_methF (pvF 1) T.cl_Echo T.me_Echo_through G_Echo_through hr_Echo_through T.b_Echo_through .nil pass0 (pa_cons (pvF 7) (pa_cons (pe_callTy call_listF (by rfl) T.z_list boot_list (pa_cons (pvF 11) pa_nil)) (pa_cons (pvF 3) pa_nil)))) (pe_either (pe_methF (pvF 1) T.cl_Back T.me_Back_through G_Back_through hr_Back_through T.b_Back_through .nil pass0 (pa_cons (pvF 7) (pa_cons (pe_callTy call_listF (by rfl) T.z_list boot_list (pa_cons (pvF 11) pa_nil)) (pa_cons (pvF 3) pa_nil)))) (pe_either (pe_methF (pvF 1) T.cl_Hall T.me_Hall_through G_Hall_through hr_Hall_through T.b_Hall_through .nil pass0 (pa_cons (pvF 7) (pa_cons (pe_callTy call_listF (by rfl) T.z_list boot_list (pa_cons (pvF 11) pa_nil)) (pa_cons (pvF 3) pa_nil)))) (pe_methF (pvF 1) T.cl_Swell T.me_Swell_through G_Swell_through hr_Swell_through T.b_Swell_through .nil pass0 (pa_cons (pvF 7) (pa_cons (pe_callTy call_listF (by rfl) T.z_list boot_list (pa_cons (pvF 11) pa_nil)) (pa_cons (pvF 3) pa_nil))))))))))
      (pss_cons (ps_set (i := 13) sc_law.nd rfl (Or.inl rfl) (pe_either (pe_methF (pvF 1) T.cl_Gain T.me_Gain_through G_Gain_through hr_Gain_through T.b_Gain_through .nil pass0 (pa_cons (pvF 7) (pa_cons (pe_callTy call_listF (by rfl) T.z_list boot_list (pa_cons (pvF 11) pa_nil)) (pa_cons (pvF 3) pa_nil)))) (pe_either (pe_methF (pvF 1) T.cl_Delay T.me_Delay_through G_Delay_through hr_Delay_through T.b_Delay_through .nil pass0 (pa_cons (pvF 7) (pa_cons (pe_callTy call_listF (by rfl) T.z_list boot_list (pa_cons (pvF 11) pa_nil)) (pa_cons (pvF 3) pa_nil)))) (pe_either (pe_methF (pvF 1) T.cl_Echo T.me_Echo_through G_Echo_through hr_Echo_through T.b_Echo_through .nil pass0 (pa_cons (pvF 7) (pa_cons (pe_callTy call_listF (by rfl) T.z_list boot_list (pa_cons (pvF 11) pa_nil)) (pa_cons (pvF 3) pa_nil)))) (pe_either (pe_methF (pvF 1) T.cl_Back T.me_Back_through G_Back_through hr_Back_through T.b_Back_through .nil pass0 (pa_cons (pvF 7) (pa_cons (pe_callTy call_listF (by rfl) T.z_list boot_list (pa_cons (pvF 11) pa_nil)) (pa_cons (pvF 3) pa_nil)))) (pe_either (pe_methF (pvF 1) T.cl_Hall T.me_Hall_through G_Hall_through hr_Hall_through T.b_Hall_through .nil pass0 (pa_cons (pvF 7) (pa_cons (pe_callTy call_listF (by rfl) T.z_list boot_list (pa_cons (pvF 11) pa_nil)) (pa_cons (pvF 3) pa_nil)))) (pe_methF (pvF 1) T.cl_Swell T.me_Swell_through G_Swell_through hr_Swell_through T.b_Swell_through .nil pass0 (pa_cons (pvF 7) (pa_cons (pe_callTy call_listF (by rfl) T.z_list boot_list (pa_cons (pvF 11) pa_nil)) (pa_cons (pvF 3) pa_nil))))))))))
      (pss_cons (ps_if (pw_or (pt_not (pt_valF (pe_call G_law_tops hr_law_tops (by rfl) T.m_law_tops T.F_law_tops.kp T.b_law_tops .nil pass0 (pa_cons (pvF 12) (pa_cons (pe_callB call_lenM (by rfl) T.z_len boot_len (pa_cons (pvF 11) pa_nil)) pa_nil))))) (pw_or1 (pt_not (pt_valF (pe_call G_law_tops hr_law_tops (by rfl) T.m_law_tops T.F_law_tops.kp T.b_law_tops .nil pass0 (pa_cons (pvF 13) (pa_cons (pe_callB call_lenM (by rfl) T.z_len boot_len (pa_cons (pvF 11) pa_nil)) pa_nil))))))).pt
      (pss_one (ps_ret pe_bl))
      pss_nil)
      (pss_cons (ps_if (pw_or (pt_cmpF (op_neM hu) (pe_ix ix_M (pvF 12) pe_int (fun _ _ => rfl)) (pe_slice sl_A (pe_ix ix_M (pvF 6) pe_int (fun _ _ => rfl)) (po_someF (pvF 8)) (po_someF (pe_op op_addM (pvF 8) (pvF 10)))) (nomark _)) (pw_or1 (pt_cmpF (op_neM hu) (pe_ix ix_M (pvF 13) pe_int (fun _ _ => rfl)) (pe_ix ix_M (pvF 12) pe_int (fun _ _ => rfl)) (nomark _)))).pt
      (pss_one (ps_ret pe_bl))
      pss_nil)
      (pss_cons (ps_set (i := 7) sc_law.nd rfl (Or.inl rfl) (pe_ix ix_M (pvF 12) pe_int (fun _ _ => rfl)))
      (pss_cons (ps_set (i := 8) sc_law.nd rfl (Or.inl rfl) (pe_op op_addM (pvF 8) (pvF 10)))
      (pss_cons (ps_set (i := 9) sc_law.nd rfl (Or.inl rfl) (pe_op op_addM (pvF 9) pe_int))
      (pss_one (ps_if (pw_and (pt_cmpF (op_eqM hu) (pvF 10) pe_int (nomark _)) (pw_and1 (pt_cmpF of_gt (pvF 9) pe_int (nomark _)))).pt
      (pss_one (ps_set (i := 8) sc_law.nd rfl (Or.inl rfl) (pe_callB call_lenM (by rfl) T.z_len boot_len (pa_cons (pvF 4) pa_nil))))
      pss_nil))))))))))))
      (pss_cons (ps_set (i := 14) sc_law.nd rfl (Or.inl rfl) (pe_either (pe_methF (pvF 1) T.cl_Gain T.me_Gain_through G_Gain_through hr_Gain_through T.b_Gain_through .nil pass0 (pa_cons (pe_either (pe_meth0F (pvF 1) T.cl_Gain T.me_Gain_fresh G_Part_fresh hr_Part_fresh T.b_Part_fresh .nil pass0) (pe_either (pe_meth0F (pvF 1) T.cl_Delay T.me_Delay_fresh G_Part_fresh hr_Part_fresh T.b_Part_fresh .nil pass0) (pe_either (pe_meth0F (pvF 1) T.cl_Echo T.me_Echo_fresh G_Part_fresh hr_Part_fresh T.b_Part_fresh .nil pass0) (pe_either (pe_meth0F (pvF 1) T.cl_Back T.me_Back_fresh G_Part_fresh hr_Part_fresh T.b_Part_fresh .nil pass0) (pe_either (pe_meth0F (pvF 1) T.cl_Hall T.me_Hall_fresh G_Part_fresh hr_Part_fresh T.b_Part_fresh .nil pass0) (pe_meth0F (pvF 1) T.cl_Swell T.me_Swell_fresh G_Swell_fresh hr_Swell_fresh T.b_Swell_fresh .nil pass0)))))) (pa_cons (pe_callTy call_listF (by rfl) T.z_list boot_list (pa_cons (pe_slice sl_A (pvF 4) po_none (po_someF pe_int)) pa_nil)) (pa_cons (pvF 3) pa_nil)))) (pe_either (pe_methF (pvF 1) T.cl_Delay T.me_Delay_through G_Delay_through hr_Delay_through T.b_Delay_through .nil pass0 (pa_cons (pe_either (pe_meth0F (pvF 1) T.cl_Gain T.me_Gain_fresh G_Part_fresh hr_Part_fresh T.b_Part_fresh .nil pass0) (pe_either (pe_meth0F (pvF 1) T.cl_Delay T.me_Delay_fresh G_Part_fresh hr_Part_fresh T.b_Part_fresh .nil pass0) (pe_either (pe_meth0F (pvF 1) T.cl_Echo T.me_Echo_fresh G_Part_fresh hr_Part_fresh T.b_Part_fresh .nil pass0) (pe_either (pe_meth0F (pvF 1) T.cl_Back T.me_Back_fresh G_Part_fresh hr_Part_fresh T.b_Part_fresh .nil pass0) (pe_either (pe_meth0F (pvF 1) T.cl_Hall T.me_Hall_fresh G_Part_fresh hr_Part_fresh T.b_Part_fresh .nil pass0) (pe_meth0F (pvF 1) T.cl_Swell T.me_Swell_fresh G_Swell_fresh hr_Swell_fresh T.b_Swell_fresh .nil pass0)))))) (pa_cons (pe_callTy call_listF (by rfl) T.z_list boot_list (pa_cons (pe_slice sl_A (pvF 4) po_none (po_someF pe_int)) pa_nil)) (pa_cons (pvF 3) pa_nil)))) (pe_either (pe_methF (pvF 1) T.cl_Echo T.me_Echo_through G_Echo_through hr_Echo_through T.b_Echo_through .nil pass0 (pa_cons (pe_either (pe_meth0F (pvF 1) T.cl_Gain T.me_Gain_fresh G_Part_fresh hr_Part_fresh T.b_Part_fresh .nil pass0) (pe_either (pe_meth0F (pvF 1) T.cl_Delay T.me_Delay_fresh G_Part_fresh hr_Part_fresh T.b_Part_fresh .nil pass0) (pe_either (pe_meth0F (pvF 1) T.cl_Echo T.me_Echo_fresh G_Part_fresh hr_Part_fresh T.b_Part_fresh .nil pass0) (pe_either (pe_meth0F (pvF 1) T.cl_Back T.me_Back_fresh G_Part_fresh hr_Part_fresh T.b_Part_fresh .nil pass0) (pe_either (pe_meth0F (pvF 1) T.cl_Hall T.me_Hall_fresh G_Part_fresh hr_Part_fresh T.b_Part_fresh .nil pass0) (pe_meth0F (pvF 1) T.cl_Swell T.me_Swell_fresh G_Swell_fresh hr_Swell_fresh T.b_Swell_fresh .nil pass0)))))) (pa_cons (pe_callTy call_listF (by rfl) T.z_list boot_list (pa_cons (pe_slice sl_A (pvF 4) po_none (po_someF pe_int)) pa_nil)) (pa_cons (pvF 3) pa_nil)))) (pe_either (pe_methF (pvF 1) T.cl_Back T.me_Back_through G_Back_through hr_Back_through T.b_Back_through .nil pass0 (pa_cons (pe_either (pe_meth0F (pvF 1) T.cl_Gain T.me_Gain_fresh G_Part_fresh hr_Part_fresh T.b_Part_fresh .nil pass0) (pe_either (pe_meth0F (pvF 1) T.cl_Delay T.me_Delay_fresh G_Part_fresh hr_Part_fresh T.b_Part_fresh .nil pass0) (pe_either (pe_meth0F (pvF 1) T.cl_Echo T.me_Echo_fresh G_Part_fresh hr_Part_fresh T.b_Part_fresh .nil pass0) (pe_either (pe_meth0F (pvF 1) T.cl_Back T.me_Back_fresh G_Part_fresh hr_Part_fresh T.b_Part_fresh .nil pass0) (pe_either (pe_meth0F (pvF 1) T.cl_Hall T.me_Hall_fresh G_Part_fresh hr_Part_fresh T.b_Part_fresh .nil pass0) (pe_meth0F (pvF 1) T.cl_Swell T.me_Swell_fresh G_Swell_fresh hr_Swell_fresh T.b_Swell_fresh .nil pass0)))))) (pa_cons (pe_callTy call_listF (by rfl) T.z_list boot_list (pa_cons (pe_slice sl_A (pvF 4) po_none (po_someF pe_int)) pa_nil)) (pa_cons (pvF 3) pa_nil)))) (pe_either (pe_methF (pvF 1) T.cl_Hall T.me_Hall_through G_Hall_through hr_Hall_through T.b_Hall_through .nil pass0 (pa_cons (pe_either (pe_meth0F (pvF 1) T.cl_Gain T.me_Gain_fresh G_Part_fresh hr_Part_fresh T.b_Part_fresh .nil pass0) (pe_either (pe_meth0F (pvF 1) T.cl_Delay T.me_Delay_fresh G_Part_fresh hr_Part_fresh T.b_Part_fresh .nil pass0) (pe_either (pe_meth0F (pvF 1) T.cl_Echo T.me_Echo_fresh G_Part_fresh hr_Part_fresh T.b_Part_fresh .nil pass0) (pe_either (pe_meth0F (pvF 1) T.cl_Back T.me_Back_fresh G_Part_fresh hr_Part_fresh T.b_Part_fresh .nil pass0) (pe_either (pe_meth0F (pvF 1) T.cl_Hall T.me_Hall_fresh G_Part_fresh hr_Part_fresh T.b_Part_fresh .nil pass0) (pe_meth0F (pvF 1) T.cl_Swell T.me_Swell_fresh G_Swell_fresh hr_Swell_fresh T.b_Swell_fresh .nil pass0)))))) (pa_cons (pe_callTy call_listF (by rfl) T.z_list boot_list (pa_cons (pe_slice sl_A (pvF 4) po_none (po_someF pe_int)) pa_nil)) (pa_cons (pvF 3) pa_nil)))) (pe_methF (pvF 1) T.cl_Swell T.me_Swell_through G_Swell_through hr_Swell_through T.b_Swell_through .nil pass0 (pa_cons (pe_either (pe_meth0F (pvF 1) T.cl_Gain T.me_Gain_fresh G_Part_fresh hr_Part_fresh T.b_Part_fresh .nil pass0) (pe_either (pe_meth0F (pvF 1) T.cl_Delay T.me_Delay_fresh G_Part_fresh hr_Part_fresh T.b_Part_fresh .nil pass0) (pe_either (pe_meth0F (pvF 1) T.cl_Echo T.me_Echo_fresh G_Part_fresh hr_Part_fresh T.b_Part_fresh .nil pass0) (pe_either (pe_meth0F (pvF 1) T.cl_Back T.me_Back_fresh G_Part_fresh hr_Part_fresh T.b_Part_fresh .nil pass0) (pe_either (pe_meth0F (pvF 1) T.cl_Hall T.me_Hall_fresh G_Part_fresh hr_Part_fresh T.b_Part_fresh .nil pass0) (pe_meth0F (pvF 1) T.cl_Swell T.me_Swell_fresh G_Swell_fresh hr_Swell_fresh T.b_Swell_fresh .nil pass0)))))) (pa_cons (pe_callTy call_listF (by rfl) T.z_list boot_list (pa_cons (pe_slice sl_A (pvF 4) po_none (po_someF pe_int)) pa_nil)) (pa_cons (pvF 3) pa_nil))))))))))
      (pss_one (ps_ret (pe_andF (pe_call G_law_tops hr_law_tops (by rfl) T.m_law_tops T.F_law_tops.kp T.b_law_tops .nil pass0 (pa_cons (pvF 14) (pa_cons (pe_callB call_lenM (by rfl) T.z_len boot_len (pa_cons (pe_slice sl_A (pvF 4) po_none (po_someF pe_int)) pa_nil)) pa_nil))) (pe_andF (pe_cmpR (op_eqM hu) (pe_ix ix_M (pvF 14) pe_int (fun _ _ => rfl)) (pe_slice sl_A (pe_ix ix_M (pvF 6) pe_int (fun _ _ => rfl)) po_none (po_someF pe_int)) (nomark _)) (pe_one (pe_cmpR (op_eqM hu) (pe_either (pe_meth0F (pvF 1) T.cl_Gain T.me_Gain_grain G_Gain_grain hr_Gain_grain T.b_Gain_grain .nil pass0) (pe_either (pe_meth0F (pvF 1) T.cl_Delay T.me_Delay_grain G_Part_grain hr_Part_grain T.b_Part_grain .nil pass0) (pe_either (pe_meth0F (pvF 1) T.cl_Echo T.me_Echo_grain G_Echo_grain hr_Echo_grain T.b_Echo_grain .nil pass0) (pe_either (pe_meth0F (pvF 1) T.cl_Back T.me_Back_grain G_Back_grain hr_Back_grain T.b_Back_grain .nil pass0) (pe_either (pe_meth0F (pvF 1) T.cl_Hall T.me_Hall_grain G_Part_grain hr_Part_grain T.b_Part_grain .nil pass0) (pe_meth0F (pvF 1) T.cl_Swell T.me_Swell_grain G_Swell_grain hr_Swell_grain T.b_Swell_grain .nil pass0)))))) (pvF 5) (nomark _))))))))))))))))))), ?_⟩
    walk_at "rd"
    refine ⟨ns, hS, Nat.le_trans (bc 0) (by decide), fun d H1 ok S1 => ?_⟩
    refine ⟨d, ok, rfl, fun o H2 n2 S2 pd => ?_⟩
    obtain ⟨S, ss, pd⟩ := pd.pick
    have S02 := S1.trans S2
    have hS2 := S02.seq hS
    refine Stop.go ?_
    walk_at "rd"
    refine ⟨ns, hS2, ?_⟩
    obtain ⟨u, eu⟩ : ∃ u : Int, (((ns.getD 1 0).natAbs : Nat) : Int) = u := ⟨_, rfl⟩
    have u0 : 0 ≤ u := by omega
    have fb := fm_bnd u (b := 1000) (by decide)
    obtain ⟨b, eb⟩ : ∃ b : Int, 1 + u.fmod 1000 = b := ⟨_, rfl⟩
    have b1 : 1 ≤ b := by omega
    have b2 : b ≤ 1000 := by omega
    rw [eu, eb]
    refine Stop.go ?_
    walk_at "rd"
    refine ⟨_, hS2, fun p3 H3 n3 S3 h3 => ?_⟩
    rw [cutV_ints] at h3
    have hm : ∀ x ∈ cutG ns (some 2) (some 65), intBits x ≤ 1100000 := fun x hx => Nat.le_trans (hbit x (mem_cutG hx)) (by decide)
    have ml := cutG_len ns (some 2) (some 65)
    generalize cutG ns (some 2) (some 65) = ms at h3 hm ml
    walk_at "rd"
    refine ⟨⟨_, SqL.of h3⟩, fun D H4 n4 S4 h4 => ?_⟩
    refine compW_map (fun v => match v with | .int c => .int (ton4 c) | v => v) n4 S4 h4 (SqL.of h3) (by rw [List.length_map, sizeLine_eq]; omega) ?_ ?_
    · intro i x H' Q' hx S' q'
      rw [List.getElem?_map] at hx
      obtain ⟨c, hc, rfl⟩ := Option.map_eq_some_iff.mp hx
      walk_at "rd"
      exact ⟨hm c (List.mem_of_getElem? hc), q'⟩
    intro H5 S5 h5
    have e5 : (ms.map V.int).map (fun v : V => match v with | .int c => V.int (ton4 c) | v => v) = (ms.map ton4).map V.int := by
      rw [List.map_map, List.map_map]
      rfl
    rw [e5] at h5
    have tb : ∀ x ∈ ms.map ton4, intBits x ≤ 64 := fun x hx => by
      obtain ⟨c, _, rfl⟩ := List.mem_map.mp hx
      have := ton4_bnd c
      exact intBits_le_64 (by omega) (by omega)
    have tl : (ms.map ton4).length ≤ 63 := by rw [List.length_map]; omega
    generalize ms.map ton4 = ts at h5 tb tl
    clear h4 e5 h3 hm
    have pd5 := pd.same (S3.trans S5)
    have gp := grain_pos pd
    walk_at "rd"
    refine gr6 rfl pd5 ?_
    walk_at "rd*"
    refine thr6 (by rfl) pd5 ?_
    walk_at "rd*"
    refine fr6 rfl pd5 fun st H6 S6 hst => ?_
    have h56 := S6 _ _ h5
    walk_at "rd*"
    refine fun l7 H7 n7 S7 h7 => ?_
    have pd7 := pd5.same (S6.trans S7)
    have h57 := S7 _ _ h56
    have bb : intBits b ≤ 64 := intBits_le_64 (by omega) (by omega)
    have tb2 : ∀ xs ys : List Int, (∀ y ∈ xs ++ ys, y ∈ ts) → ∀ y ∈ xs ++ ys, intBits y ≤ 100000 := fun xs ys h y hy => Nat.le_trans (tb y (h y hy)) (by decide)
    walk_at "rd"
    refine ⟨d, rfl, S, ss, pd7, ok, [], (hst b).same S7, ts, h7, by decide, by omega, b1, bb, tb2 [] ts fun y hy => hy, fun r8 ou8 st8 H8 S8 nr8 no8 hr8 ho8 hst8 => ?_⟩
    have h58 := S8 _ _ h57
    have pd8 := pd7.same S8
    have lo := outs_len d b S ss [] ts
    clear h7 h56 h57 h5
    walk_at "rd*"
    refine ⟨ou8, st8, ⟨rfl, rfl⟩, _, ho8, by rw [lo], ?_⟩
    rw [if_neg (by omega)]
    refine fr6 (by rfl) pd8 fun st9 H9 S9 hst9 => ?_
    obtain ⟨Pv, pin, pout⟩ := opaqN (fun m σ H' => ∃ (at' tn : Nat) (st : V) (v10 v11 v12 v13 : Option V), σ = [some (.ref a), some (.ref o), some (.int u), some (.int b), some (.ref D), some (.int (grainOf S d)), some (.ref r8), some st, some (.int at'), some (.int tn), v10, v11, v12, v13, none] ∧ Same H8 H' ∧ (at' < ts.length → StV H' b (ts.take at') st d) ∧ at' ≤ 69 ∧ tn ≤ 201 + at' ∧ m = (ts.length - at') + (300 - tn))
    refine whileW_by Pv _ (pin _ _ _ ⟨0, 0, st9, none, none, none, none, rfl, S9, fun _ => by rw [List.take_zero]; exact hst9 b, by decide, by decide, rfl⟩) ?_
    intro m σ H10 hp
    obtain ⟨at', tn, st, v10, v11, v12, v13, rfl, S10, hst10, a69, tna, em⟩ := pout _ _ _ hp
    have hD := S10 _ _ h58
    have hr10 := S10 _ _ hr8
    have ho10 := S10 _ _ ho8
    have pd10 := pd8.same S10
    clear hp h58 hr8 ho8
    walk_at "rd*"
    split
    · rename_i hlt
      have fm := fm_bnd (u.fdiv 1000 + (tn : Int) * (tn : Int)) (b := 7) (by decide)
      obtain ⟨mm, emm⟩ : ∃ mm : Nat, (u.fdiv 1000 + (tn : Int) * (tn : Int)).fmod 7 = (mm : Int) := ⟨((u.fdiv 1000 + (tn : Int) * (tn : Int)).fmod 7).toNat, by omega⟩
      have cfu : CFd u 1000 := ⟨by decide, by decide⟩
      have imt : IntMulOk (tn : Int) (tn : Int) := IntMulOk.of_left (intBits_le_64 (by omega) (by omega))
      walk_at "rd*"
      refine fun bl H11 n11 S11 h11 => ?_
      rw [cutV_ints, cutG_part] at h11
      have hD11 := S11 _ _ hD
      have hr11 := S11 _ _ hr10
      have ho11 := S11 _ _ ho10
      have pd11 := pd10.same S11
      have hst11 := (hst10 (by omega)).same S11
      have sl := outs_slice d b S ss ts at' mm
      have yl : ((ts.drop at').take mm).length ≤ 63 := by rw [List.length_take, List.length_drop]; omega
      have xyl : ∀ y ∈ ts.take at' ++ (ts.drop at').take mm, y ∈ ts := fun y hy => by
        rcases List.mem_append.mp hy with z | z
        · exact List.mem_of_mem_take z
        · exact List.mem_of_mem_drop (List.mem_of_mem_take z)
      have xye : ts.take at' ++ (ts.drop at').take mm = ts.take (at' + mm) := (List.take_add ..).symm
      have xl : (ts.take at').length ≤ 40000 := by rw [List.length_take]; omega
      have ol := outs_len d b S ss (ts.take at') ((ts.drop at').take mm)
      obtain ⟨Y, eY⟩ : ∃ Y, (ts.drop at').take mm = Y := ⟨_, rfl⟩
      obtain ⟨O, eO⟩ : ∃ O, outs d b S ss (ts.take at') Y = O := ⟨_, rfl⟩
      obtain ⟨F, eF⟩ : ∃ F, outs d b S ss [] ts = F := ⟨_, rfl⟩
      rw [eY] at h11 yl xyl xye ol sl
      rw [eO] at ol sl
      rw [eF] at sl ho11
      have mm7 : mm ≤ 6 := by omega
      have em' : id (m = (ts.length - at') + (300 - tn)) := em
      clear hD hr10 ho10 em fm
      walk_at "rd*"
      refine thr6 (by rfl) pd11 ?_
      walk_at "rd*"
      refine fun l12 H12 n12 S12 h12 => ?_
      walk_at "rd"
      refine ⟨d, rfl, S, ss, pd11.same S12, ok, ts.take at', hst11.same S12, Y, h12, xl, by omega, b1, bb, tb2 _ _ xyl, fun r13 ou13 st13 H13 S13 nr13 no13 hr13 hou13 hst13 => ?_⟩
      rw [eO] at hou13
      rw [xye] at hst13
      have S113 := S12.trans S13
      have h1113 := S113 _ _ h11
      have hD13 := S113 _ _ hD11
      have hr13' := S113 _ _ hr11
      have ho13' := S113 _ _ ho11
      have pd13 := pd11.same S113
      clear h12 h11 hD11 hr11 ho11
      try walk_at "rd*"
      refine thr6 (by rfl) pd13 ?_
      walk_at "rd*"
      refine fun l14 H14 n14 S14 h14 => ?_
      walk_at "rd"
      refine ⟨d, rfl, S, ss, pd13.same S14, ok, ts.take at', (hst11.same S113).same S14, Y, h14, xl, by omega, b1, bb, tb2 _ _ xyl, fun r15 ou15 st15 H15 S15 nr15 no15 hr15 hou15 hst15 => ?_⟩
      rw [eO] at hou15
      have S135 := S14.trans S15
      have hb15 := S135 _ _ h1113
      have hD15 := S135 _ _ hD13
      have hrr15 := S135 _ _ hr13'
      have hoo15 := S135 _ _ ho13'
      have hf15 := S135 _ _ hr13
      have hfo15 := S135 _ _ hou13
      have hst15' := hst13.same S135
      have sl' : id ((F.drop at').take mm = O) := sl
      clear h14 h1113 hD13 hr13' ho13' hr13 hou13 sl
      walk_at "rd*"
      refine ⟨ou13, st13, ⟨rfl, rfl⟩, O, hfo15, by rw [ol], ou15, st15, ⟨rfl, rfl⟩, O, hou15, by rw [ol], fun l20 H20 n20 S20 h20 => ?_⟩
      rw [cutV_ints, cutG_part, show _ = O from sl'] at h20
      have hf20 := S20 _ _ hf15
      have hfo20 := S20 _ _ hfo15
      have hr20 := S20 _ _ hr15
      have hou20 := S20 _ _ hou15
      have hD20 := S20 _ _ hD15
      clear hb15 hrr15 hoo15 hf15 hfo15 hr15 hou15 hD15
      walk_at "rd*"
      refine neL_ints (SqL.of hfo20) (SqL.of h20) ?_
      simp only [decide_true, Bool.not_true, Bool.false_eq_true, if_false]
      walk_at "rd*"
      refine neL_ints (SqL.of hou20) (SqL.of hfo20) ?_
      simp only [decide_true, Bool.not_true, Bool.false_eq_true, if_false]
      have S920 : Same H10 H20 := S11.trans (S12.trans (S13.trans (S14.trans (S15.trans S20))))
      walk_at "rd*"
      have em : m = (ts.length - at') + (300 - tn) := em'
      split
      · refine ⟨(ts.length - ts.length) + (300 - (tn + 1)), by omega, pin _ _ _ ⟨ts.length, tn + 1, st13, _, _, _, _, rfl, S10.trans S920, fun z => absurd z (Nat.lt_irrefl _), by omega, by omega, rfl⟩⟩
      · refine ⟨(ts.length - (at' + mm)) + (300 - (tn + 1)), by omega, pin _ _ _ ⟨at' + mm, tn + 1, st13, _, _, _, _, by rw [Int.natCast_add]; rfl, S10.trans S920, fun _ => hst15'.same S20, by omega, by omega, rfl⟩⟩
    · rename_i hge
      refine thr6 (by rfl) pd10 ?_
      walk_at "rd*"
      refine fr6 (by rfl) pd10 fun st16 H16 S16 hst16 => ?_
      have hD16 := S16 _ _ hD
      walk_at "rd*"
      refine fun l17 H17 n17 S17 h17 => ?_
      rw [cutV_ints, show (some (3 : Int)) = some ((3 : Nat) : Int) from rfl, cutG_upto] at h17
      walk_at "rd*"
      refine fun l18 H18 n18 S18 h18 => ?_
      walk_at "rd"
      have S108 := S16.trans (S17.trans S18)
      have l3 : (ts.take 3).length ≤ 3 := by rw [List.length_take]; omega
      refine ⟨d, rfl, S, ss, pd10.same S108, ok, [], (hst16 b).same (S17.trans S18), ts.take 3, h18, by decide, by omega, b1, bb, tb2 [] _ fun y hy => List.mem_of_mem_take hy, fun r19 ou19 st19 H19 S19 nr19 no19 hr19 hou19 hst19 => ?_⟩
      have S109 := S108.trans S19
      have hD19 := S109 _ _ hD
      have hr19' := S109 _ _ hr10
      have ho19' := S109 _ _ ho10
      have pd19 := pd10.same S109
      have sl3 := outs_slice d b S ss ts 0 3
      rw [List.drop_zero, List.drop_zero, List.take_zero] at sl3
      have ol3 := outs_len d b S ss [] (ts.take 3)
      clear h17 h18 hD hr10 ho10 hD16
      walk_at "rd*"
      refine fun l20 H20 n20 S20 h20 => ?_
      rw [cutV_ints, show (some (3 : Int)) = some ((3 : Nat) : Int) from rfl, cutG_upto] at h20
      have hr20 := S20 _ _ hr19
      have hou20 := S20 _ _ hou19
      have hrr20 := S20 _ _ hr19'
      have hoo20 := S20 _ _ ho19'
      have pd20 := pd19.same S20
      clear hr19 hou19 hr19' ho19' hD19
      walk_at "rd*"
      refine ⟨ou19, st19, ⟨rfl, rfl⟩, _, hou20, by rw [ol3], fun l21 H21 n21 S21 h21 => ?_⟩
      rw [cutV_ints, show (some (3 : Int)) = some ((3 : Nat) : Int) from rfl, cutG_upto, sl3] at h21
      have hou21 := S21 _ _ hou20
      have pd21 := pd20.same S21
      clear hr20 hou20 hrr20 hoo20 sl3
      walk_at "rd"
      refine eqL_ints (SqL.of hou21) (SqL.of h21) ?_
      simp only [decide_true, if_true]
      refine gr6 (by rfl) pd21 ?_
      walk_at "rd*"

theorem all_mk {l : PySem.W.OpenLaw} {w : World} {K : PySem.W.Frag} {h : Heap} {mg : Str → Option Value} {fa : Addr} (X : K.In h) (G : h.Ns mainGlobals mg) (hfa : mg "law" = some (.ref fa))
    {c_Part c_Gain c_Delay c_Echo c_Back c_Hall c_Swell : Addr}
    (mc_Part : PySem.W.nsIn K mainGlobals "Part" = some (some (.ref c_Part)))
    (mc_Gain : PySem.W.nsIn K mainGlobals "Gain" = some (some (.ref c_Gain)))
    (mc_Delay : PySem.W.nsIn K mainGlobals "Delay" = some (some (.ref c_Delay)))
    (mc_Echo : PySem.W.nsIn K mainGlobals "Echo" = some (some (.ref c_Echo)))
    (mc_Back : PySem.W.nsIn K mainGlobals "Back" = some (some (.ref c_Back)))
    (mc_Hall : PySem.W.nsIn K mainGlobals "Hall" = some (some (.ref c_Hall)))
    (mc_Swell : PySem.W.nsIn K mainGlobals "Swell" = some (some (.ref c_Swell)))
    {f_is_whole : Addr} {od_is_whole an_is_whole : Option Addr} {sl_is_whole : Array (Option Value)} {oc_is_whole kV_is_whole dc_is_whole pm_is_whole cd_is_whole ct_is_whole : Value}
    (a_is_whole : PySem.W.nsIn K mainGlobals "is_whole" = some (some (.ref f_is_whole))) (l_is_whole : K.lookup f_is_whole = some ⟨oc_is_whole, od_is_whole, .func (PySem.W.fnOf "is_whole" "is_whole" (defArgs s_is_whole) (defBody s_is_whole) (defScope s_is_whole) .none kV_is_whole dc_is_whole pm_is_whole an_is_whole cd_is_whole ct_is_whole), sl_is_whole⟩) (c_is_whole : PySem.W.codeIn K cd_is_whole "is_whole" = true) (k_is_whole : PySem.W.keepIn K (.ref f_is_whole) = true)
    {f_is_figures : Addr} {od_is_figures an_is_figures : Option Addr} {sl_is_figures : Array (Option Value)} {oc_is_figures kV_is_figures dc_is_figures pm_is_figures cd_is_figures ct_is_figures : Value}
    (a_is_figures : PySem.W.nsIn K mainGlobals "is_figures" = some (some (.ref f_is_figures))) (l_is_figures : K.lookup f_is_figures = some ⟨oc_is_figures, od_is_figures, .func (PySem.W.fnOf "is_figures" "is_figures" (defArgs s_is_figures) (defBody s_is_figures) (defScope s_is_figures) .none kV_is_figures dc_is_figures pm_is_figures an_is_figures cd_is_figures ct_is_figures), sl_is_figures⟩) (c_is_figures : PySem.W.codeIn K cd_is_figures "is_figures" = true) (k_is_figures : PySem.W.keepIn K (.ref f_is_figures) = true)
    {f_whole_of : Addr} {od_whole_of an_whole_of : Option Addr} {sl_whole_of : Array (Option Value)} {oc_whole_of kV_whole_of dc_whole_of pm_whole_of cd_whole_of ct_whole_of : Value}
    (a_whole_of : PySem.W.nsIn K mainGlobals "whole_of" = some (some (.ref f_whole_of))) (l_whole_of : K.lookup f_whole_of = some ⟨oc_whole_of, od_whole_of, .func (PySem.W.fnOf "whole_of" "whole_of" (defArgs s_whole_of) (defBody s_whole_of) (defScope s_whole_of) .none kV_whole_of dc_whole_of pm_whole_of an_whole_of cd_whole_of ct_whole_of), sl_whole_of⟩) (c_whole_of : PySem.W.codeIn K cd_whole_of "whole_of" = true) (k_whole_of : PySem.W.keepIn K (.ref f_whole_of) = true)
    {f_divisor : Addr} {od_divisor an_divisor : Option Addr} {sl_divisor : Array (Option Value)} {oc_divisor kV_divisor dc_divisor pm_divisor cd_divisor ct_divisor : Value}
    (a_divisor : PySem.W.nsIn K mainGlobals "divisor" = some (some (.ref f_divisor))) (l_divisor : K.lookup f_divisor = some ⟨oc_divisor, od_divisor, .func (PySem.W.fnOf "divisor" "divisor" (defArgs s_divisor) (defBody s_divisor) (defScope s_divisor) .none kV_divisor dc_divisor pm_divisor an_divisor cd_divisor ct_divisor), sl_divisor⟩) (c_divisor : PySem.W.codeIn K cd_divisor "divisor" = true) (k_divisor : PySem.W.keepIn K (.ref f_divisor) = true)
    {f_multiple : Addr} {od_multiple an_multiple : Option Addr} {sl_multiple : Array (Option Value)} {oc_multiple kV_multiple dc_multiple pm_multiple cd_multiple ct_multiple : Value}
    (a_multiple : PySem.W.nsIn K mainGlobals "multiple" = some (some (.ref f_multiple))) (l_multiple : K.lookup f_multiple = some ⟨oc_multiple, od_multiple, .func (PySem.W.fnOf "multiple" "multiple" (defArgs s_multiple) (defBody s_multiple) (defScope s_multiple) .none kV_multiple dc_multiple pm_multiple an_multiple cd_multiple ct_multiple), sl_multiple⟩) (c_multiple : PySem.W.codeIn K cd_multiple "multiple" = true) (k_multiple : PySem.W.keepIn K (.ref f_multiple) = true)
    {f_fraction : Addr} {od_fraction an_fraction : Option Addr} {sl_fraction : Array (Option Value)} {oc_fraction kV_fraction dc_fraction pm_fraction cd_fraction ct_fraction : Value}
    (a_fraction : PySem.W.nsIn K mainGlobals "fraction" = some (some (.ref f_fraction))) (l_fraction : K.lookup f_fraction = some ⟨oc_fraction, od_fraction, .func (PySem.W.fnOf "fraction" "fraction" (defArgs s_fraction) (defBody s_fraction) (defScope s_fraction) .none kV_fraction dc_fraction pm_fraction an_fraction cd_fraction ct_fraction), sl_fraction⟩) (c_fraction : PySem.W.codeIn K cd_fraction "fraction" = true) (k_fraction : PySem.W.keepIn K (.ref f_fraction) = true)
    {f_plus : Addr} {od_plus an_plus : Option Addr} {sl_plus : Array (Option Value)} {oc_plus kV_plus dc_plus pm_plus cd_plus ct_plus : Value}
    (a_plus : PySem.W.nsIn K mainGlobals "plus" = some (some (.ref f_plus))) (l_plus : K.lookup f_plus = some ⟨oc_plus, od_plus, .func (PySem.W.fnOf "plus" "plus" (defArgs s_plus) (defBody s_plus) (defScope s_plus) .none kV_plus dc_plus pm_plus an_plus cd_plus ct_plus), sl_plus⟩) (c_plus : PySem.W.codeIn K cd_plus "plus" = true) (k_plus : PySem.W.keepIn K (.ref f_plus) = true)
    {f_times : Addr} {od_times an_times : Option Addr} {sl_times : Array (Option Value)} {oc_times kV_times dc_times pm_times cd_times ct_times : Value}
    (a_times : PySem.W.nsIn K mainGlobals "times" = some (some (.ref f_times))) (l_times : K.lookup f_times = some ⟨oc_times, od_times, .func (PySem.W.fnOf "times" "times" (defArgs s_times) (defBody s_times) (defScope s_times) .none kV_times dc_times pm_times an_times cd_times ct_times), sl_times⟩) (c_times : PySem.W.codeIn K cd_times "times" = true) (k_times : PySem.W.keepIn K (.ref f_times) = true)
    {f_size_of : Addr} {od_size_of an_size_of : Option Addr} {sl_size_of : Array (Option Value)} {oc_size_of kV_size_of dc_size_of pm_size_of cd_size_of ct_size_of : Value}
    (a_size_of : PySem.W.nsIn K mainGlobals "size_of" = some (some (.ref f_size_of))) (l_size_of : K.lookup f_size_of = some ⟨oc_size_of, od_size_of, .func (PySem.W.fnOf "size_of" "size_of" (defArgs s_size_of) (defBody s_size_of) (defScope s_size_of) .none kV_size_of dc_size_of pm_size_of an_size_of cd_size_of ct_size_of), sl_size_of⟩) (c_size_of : PySem.W.codeIn K cd_size_of "size_of" = true) (k_size_of : PySem.W.keepIn K (.ref f_size_of) = true)
    {f_is_under : Addr} {od_is_under an_is_under : Option Addr} {sl_is_under : Array (Option Value)} {oc_is_under kV_is_under dc_is_under pm_is_under cd_is_under ct_is_under : Value}
    (a_is_under : PySem.W.nsIn K mainGlobals "is_under" = some (some (.ref f_is_under))) (l_is_under : K.lookup f_is_under = some ⟨oc_is_under, od_is_under, .func (PySem.W.fnOf "is_under" "is_under" (defArgs s_is_under) (defBody s_is_under) (defScope s_is_under) .none kV_is_under dc_is_under pm_is_under an_is_under cd_is_under ct_is_under), sl_is_under⟩) (c_is_under : PySem.W.codeIn K cd_is_under "is_under" = true) (k_is_under : PySem.W.keepIn K (.ref f_is_under) = true)
    {f_fraction_text : Addr} {od_fraction_text an_fraction_text : Option Addr} {sl_fraction_text : Array (Option Value)} {oc_fraction_text kV_fraction_text dc_fraction_text pm_fraction_text cd_fraction_text ct_fraction_text : Value}
    (a_fraction_text : PySem.W.nsIn K mainGlobals "fraction_text" = some (some (.ref f_fraction_text))) (l_fraction_text : K.lookup f_fraction_text = some ⟨oc_fraction_text, od_fraction_text, .func (PySem.W.fnOf "fraction_text" "fraction_text" (defArgs s_fraction_text) (defBody s_fraction_text) (defScope s_fraction_text) .none kV_fraction_text dc_fraction_text pm_fraction_text an_fraction_text cd_fraction_text ct_fraction_text), sl_fraction_text⟩) (c_fraction_text : PySem.W.codeIn K cd_fraction_text "fraction_text" = true) (k_fraction_text : PySem.W.keepIn K (.ref f_fraction_text) = true)
    {f_read_fraction : Addr} {od_read_fraction an_read_fraction : Option Addr} {sl_read_fraction : Array (Option Value)} {oc_read_fraction kV_read_fraction dc_read_fraction pm_read_fraction cd_read_fraction ct_read_fraction : Value}
    (a_read_fraction : PySem.W.nsIn K mainGlobals "read_fraction" = some (some (.ref f_read_fraction))) (l_read_fraction : K.lookup f_read_fraction = some ⟨oc_read_fraction, od_read_fraction, .func (PySem.W.fnOf "read_fraction" "read_fraction" (defArgs s_read_fraction) (defBody s_read_fraction) (defScope s_read_fraction) .none kV_read_fraction dc_read_fraction pm_read_fraction an_read_fraction cd_read_fraction ct_read_fraction), sl_read_fraction⟩) (c_read_fraction : PySem.W.codeIn K cd_read_fraction "read_fraction" = true) (k_read_fraction : PySem.W.keepIn K (.ref f_read_fraction) = true)
    {f_added_rows : Addr} {od_added_rows an_added_rows : Option Addr} {sl_added_rows : Array (Option Value)} {oc_added_rows kV_added_rows dc_added_rows pm_added_rows cd_added_rows ct_added_rows : Value}
    (a_added_rows : PySem.W.nsIn K mainGlobals "added_rows" = some (some (.ref f_added_rows))) (l_added_rows : K.lookup f_added_rows = some ⟨oc_added_rows, od_added_rows, .func (PySem.W.fnOf "added_rows" "added_rows" (defArgs s_added_rows) (defBody s_added_rows) (defScope s_added_rows) .none kV_added_rows dc_added_rows pm_added_rows an_added_rows cd_added_rows ct_added_rows), sl_added_rows⟩) (c_added_rows : PySem.W.codeIn K cd_added_rows "added_rows" = true) (k_added_rows : PySem.W.keepIn K (.ref f_added_rows) = true)
    {f_times_row : Addr} {od_times_row an_times_row : Option Addr} {sl_times_row : Array (Option Value)} {oc_times_row kV_times_row dc_times_row pm_times_row cd_times_row ct_times_row : Value}
    (a_times_row : PySem.W.nsIn K mainGlobals "times_row" = some (some (.ref f_times_row))) (l_times_row : K.lookup f_times_row = some ⟨oc_times_row, od_times_row, .func (PySem.W.fnOf "times_row" "times_row" (defArgs s_times_row) (defBody s_times_row) (defScope s_times_row) .none kV_times_row dc_times_row pm_times_row an_times_row cd_times_row ct_times_row), sl_times_row⟩) (c_times_row : PySem.W.codeIn K cd_times_row "times_row" = true) (k_times_row : PySem.W.keepIn K (.ref f_times_row) = true)
    {f_delayed : Addr} {od_delayed an_delayed : Option Addr} {sl_delayed : Array (Option Value)} {oc_delayed kV_delayed dc_delayed pm_delayed cd_delayed ct_delayed : Value}
    (a_delayed : PySem.W.nsIn K mainGlobals "delayed" = some (some (.ref f_delayed))) (l_delayed : K.lookup f_delayed = some ⟨oc_delayed, od_delayed, .func (PySem.W.fnOf "delayed" "delayed" (defArgs s_delayed) (defBody s_delayed) (defScope s_delayed) .none kV_delayed dc_delayed pm_delayed an_delayed cd_delayed ct_delayed), sl_delayed⟩) (c_delayed : PySem.W.codeIn K cd_delayed "delayed" = true) (k_delayed : PySem.W.keepIn K (.ref f_delayed) = true)
    {f_last_of : Addr} {od_last_of an_last_of : Option Addr} {sl_last_of : Array (Option Value)} {oc_last_of kV_last_of dc_last_of pm_last_of cd_last_of ct_last_of : Value}
    (a_last_of : PySem.W.nsIn K mainGlobals "last_of" = some (some (.ref f_last_of))) (l_last_of : K.lookup f_last_of = some ⟨oc_last_of, od_last_of, .func (PySem.W.fnOf "last_of" "last_of" (defArgs s_last_of) (defBody s_last_of) (defScope s_last_of) .none kV_last_of dc_last_of pm_last_of an_last_of cd_last_of ct_last_of), sl_last_of⟩) (c_last_of : PySem.W.codeIn K cd_last_of "last_of" = true) (k_last_of : PySem.W.keepIn K (.ref f_last_of) = true)
    {f_Part_grain : Addr} {od_Part_grain an_Part_grain : Option Addr} {sl_Part_grain : Array (Option Value)} {oc_Part_grain kV_Part_grain dc_Part_grain pm_Part_grain cd_Part_grain ct_Part_grain : Value}
    (a_Part_grain : PySem.W.findIn K (.ref c_Part) "grain" = some (some (.ref f_Part_grain))) (l_Part_grain : K.lookup f_Part_grain = some ⟨oc_Part_grain, od_Part_grain, .func (PySem.W.fnOf "grain" "Part.grain" (defArgs s_Part_grain) (defBody s_Part_grain) (defScope s_Part_grain) .none kV_Part_grain dc_Part_grain pm_Part_grain an_Part_grain cd_Part_grain ct_Part_grain), sl_Part_grain⟩) (c_Part_grain : PySem.W.codeIn K cd_Part_grain "Part.grain" = true) (k_Part_grain : PySem.W.keepIn K (.ref f_Part_grain) = true)
    {f_Part_fresh : Addr} {od_Part_fresh an_Part_fresh : Option Addr} {sl_Part_fresh : Array (Option Value)} {oc_Part_fresh kV_Part_fresh dc_Part_fresh pm_Part_fresh cd_Part_fresh ct_Part_fresh : Value}
    (a_Part_fresh : PySem.W.findIn K (.ref c_Part) "fresh" = some (some (.ref f_Part_fresh))) (l_Part_fresh : K.lookup f_Part_fresh = some ⟨oc_Part_fresh, od_Part_fresh, .func (PySem.W.fnOf "fresh" "Part.fresh" (defArgs s_Part_fresh) (defBody s_Part_fresh) (defScope s_Part_fresh) .none kV_Part_fresh dc_Part_fresh pm_Part_fresh an_Part_fresh cd_Part_fresh ct_Part_fresh), sl_Part_fresh⟩) (c_Part_fresh : PySem.W.codeIn K cd_Part_fresh "Part.fresh" = true) (k_Part_fresh : PySem.W.keepIn K (.ref f_Part_fresh) = true)
    {f_Gain_init : Addr} {od_Gain_init an_Gain_init : Option Addr} {sl_Gain_init : Array (Option Value)} {oc_Gain_init kV_Gain_init dc_Gain_init pm_Gain_init cd_Gain_init ct_Gain_init : Value}
    (a_Gain_init : PySem.W.findIn K (.ref c_Gain) "__init__" = some (some (.ref f_Gain_init))) (l_Gain_init : K.lookup f_Gain_init = some ⟨oc_Gain_init, od_Gain_init, .func (PySem.W.fnOf "__init__" "Gain.__init__" (defArgs s_Gain_init) (defBody s_Gain_init) (defScope s_Gain_init) .none kV_Gain_init dc_Gain_init pm_Gain_init an_Gain_init cd_Gain_init ct_Gain_init), sl_Gain_init⟩) (c_Gain_init : PySem.W.codeIn K cd_Gain_init "Gain.__init__" = true) (k_Gain_init : PySem.W.keepIn K (.ref f_Gain_init) = true)
    {f_Gain_grain : Addr} {od_Gain_grain an_Gain_grain : Option Addr} {sl_Gain_grain : Array (Option Value)} {oc_Gain_grain kV_Gain_grain dc_Gain_grain pm_Gain_grain cd_Gain_grain ct_Gain_grain : Value}
    (a_Gain_grain : PySem.W.findIn K (.ref c_Gain) "grain" = some (some (.ref f_Gain_grain))) (l_Gain_grain : K.lookup f_Gain_grain = some ⟨oc_Gain_grain, od_Gain_grain, .func (PySem.W.fnOf "grain" "Gain.grain" (defArgs s_Gain_grain) (defBody s_Gain_grain) (defScope s_Gain_grain) .none kV_Gain_grain dc_Gain_grain pm_Gain_grain an_Gain_grain cd_Gain_grain ct_Gain_grain), sl_Gain_grain⟩) (c_Gain_grain : PySem.W.codeIn K cd_Gain_grain "Gain.grain" = true) (k_Gain_grain : PySem.W.keepIn K (.ref f_Gain_grain) = true)
    {f_Gain_through : Addr} {od_Gain_through an_Gain_through : Option Addr} {sl_Gain_through : Array (Option Value)} {oc_Gain_through kV_Gain_through dc_Gain_through pm_Gain_through cd_Gain_through ct_Gain_through : Value}
    (a_Gain_through : PySem.W.findIn K (.ref c_Gain) "through" = some (some (.ref f_Gain_through))) (l_Gain_through : K.lookup f_Gain_through = some ⟨oc_Gain_through, od_Gain_through, .func (PySem.W.fnOf "through" "Gain.through" (defArgs s_Gain_through) (defBody s_Gain_through) (defScope s_Gain_through) .none kV_Gain_through dc_Gain_through pm_Gain_through an_Gain_through cd_Gain_through ct_Gain_through), sl_Gain_through⟩) (c_Gain_through : PySem.W.codeIn K cd_Gain_through "Gain.through" = true) (k_Gain_through : PySem.W.keepIn K (.ref f_Gain_through) = true)
    {f_Delay_init : Addr} {od_Delay_init an_Delay_init : Option Addr} {sl_Delay_init : Array (Option Value)} {oc_Delay_init kV_Delay_init dc_Delay_init pm_Delay_init cd_Delay_init ct_Delay_init : Value}
    (a_Delay_init : PySem.W.findIn K (.ref c_Delay) "__init__" = some (some (.ref f_Delay_init))) (l_Delay_init : K.lookup f_Delay_init = some ⟨oc_Delay_init, od_Delay_init, .func (PySem.W.fnOf "__init__" "Delay.__init__" (defArgs s_Delay_init) (defBody s_Delay_init) (defScope s_Delay_init) .none kV_Delay_init dc_Delay_init pm_Delay_init an_Delay_init cd_Delay_init ct_Delay_init), sl_Delay_init⟩) (c_Delay_init : PySem.W.codeIn K cd_Delay_init "Delay.__init__" = true) (k_Delay_init : PySem.W.keepIn K (.ref f_Delay_init) = true)
    {f_Delay_through : Addr} {od_Delay_through an_Delay_through : Option Addr} {sl_Delay_through : Array (Option Value)} {oc_Delay_through kV_Delay_through dc_Delay_through pm_Delay_through cd_Delay_through ct_Delay_through : Value}
    (a_Delay_through : PySem.W.findIn K (.ref c_Delay) "through" = some (some (.ref f_Delay_through))) (l_Delay_through : K.lookup f_Delay_through = some ⟨oc_Delay_through, od_Delay_through, .func (PySem.W.fnOf "through" "Delay.through" (defArgs s_Delay_through) (defBody s_Delay_through) (defScope s_Delay_through) .none kV_Delay_through dc_Delay_through pm_Delay_through an_Delay_through cd_Delay_through ct_Delay_through), sl_Delay_through⟩) (c_Delay_through : PySem.W.codeIn K cd_Delay_through "Delay.through" = true) (k_Delay_through : PySem.W.keepIn K (.ref f_Delay_through) = true)
    {f_powers_of : Addr} {od_powers_of an_powers_of : Option Addr} {sl_powers_of : Array (Option Value)} {oc_powers_of kV_powers_of dc_powers_of pm_powers_of cd_powers_of ct_powers_of : Value}
    (a_powers_of : PySem.W.nsIn K mainGlobals "powers_of" = some (some (.ref f_powers_of))) (l_powers_of : K.lookup f_powers_of = some ⟨oc_powers_of, od_powers_of, .func (PySem.W.fnOf "powers_of" "powers_of" (defArgs s_powers_of) (defBody s_powers_of) (defScope s_powers_of) .none kV_powers_of dc_powers_of pm_powers_of an_powers_of cd_powers_of ct_powers_of), sl_powers_of⟩) (c_powers_of : PySem.W.codeIn K cd_powers_of "powers_of" = true) (k_powers_of : PySem.W.keepIn K (.ref f_powers_of) = true)
    {f_toward_nought : Addr} {od_toward_nought an_toward_nought : Option Addr} {sl_toward_nought : Array (Option Value)} {oc_toward_nought kV_toward_nought dc_toward_nought pm_toward_nought cd_toward_nought ct_toward_nought : Value}
    (a_toward_nought : PySem.W.nsIn K mainGlobals "toward_nought" = some (some (.ref f_toward_nought))) (l_toward_nought : K.lookup f_toward_nought = some ⟨oc_toward_nought, od_toward_nought, .func (PySem.W.fnOf "toward_nought" "toward_nought" (defArgs s_toward_nought) (defBody s_toward_nought) (defScope s_toward_nought) .none kV_toward_nought dc_toward_nought pm_toward_nought an_toward_nought cd_toward_nought ct_toward_nought), sl_toward_nought⟩) (c_toward_nought : PySem.W.codeIn K cd_toward_nought "toward_nought" = true) (k_toward_nought : PySem.W.keepIn K (.ref f_toward_nought) = true)
    {f_Echo_init : Addr} {od_Echo_init an_Echo_init : Option Addr} {sl_Echo_init : Array (Option Value)} {oc_Echo_init kV_Echo_init dc_Echo_init pm_Echo_init cd_Echo_init ct_Echo_init : Value}
    (a_Echo_init : PySem.W.findIn K (.ref c_Echo) "__init__" = some (some (.ref f_Echo_init))) (l_Echo_init : K.lookup f_Echo_init = some ⟨oc_Echo_init, od_Echo_init, .func (PySem.W.fnOf "__init__" "Echo.__init__" (defArgs s_Echo_init) (defBody s_Echo_init) (defScope s_Echo_init) .none kV_Echo_init dc_Echo_init pm_Echo_init an_Echo_init cd_Echo_init ct_Echo_init), sl_Echo_init⟩) (c_Echo_init : PySem.W.codeIn K cd_Echo_init "Echo.__init__" = true) (k_Echo_init : PySem.W.keepIn K (.ref f_Echo_init) = true)
    {f_Echo_grain : Addr} {od_Echo_grain an_Echo_grain : Option Addr} {sl_Echo_grain : Array (Option Value)} {oc_Echo_grain kV_Echo_grain dc_Echo_grain pm_Echo_grain cd_Echo_grain ct_Echo_grain : Value}
    (a_Echo_grain : PySem.W.findIn K (.ref c_Echo) "grain" = some (some (.ref f_Echo_grain))) (l_Echo_grain : K.lookup f_Echo_grain = some ⟨oc_Echo_grain, od_Echo_grain, .func (PySem.W.fnOf "grain" "Echo.grain" (defArgs s_Echo_grain) (defBody s_Echo_grain) (defScope s_Echo_grain) .none kV_Echo_grain dc_Echo_grain pm_Echo_grain an_Echo_grain cd_Echo_grain ct_Echo_grain), sl_Echo_grain⟩) (c_Echo_grain : PySem.W.codeIn K cd_Echo_grain "Echo.grain" = true) (k_Echo_grain : PySem.W.keepIn K (.ref f_Echo_grain) = true)
    {f_Echo_through : Addr} {od_Echo_through an_Echo_through : Option Addr} {sl_Echo_through : Array (Option Value)} {oc_Echo_through kV_Echo_through dc_Echo_through pm_Echo_through cd_Echo_through ct_Echo_through : Value}
    (a_Echo_through : PySem.W.findIn K (.ref c_Echo) "through" = some (some (.ref f_Echo_through))) (l_Echo_through : K.lookup f_Echo_through = some ⟨oc_Echo_through, od_Echo_through, .func (PySem.W.fnOf "through" "Echo.through" (defArgs s_Echo_through) (defBody s_Echo_through) (defScope s_Echo_through) .none kV_Echo_through dc_Echo_through pm_Echo_through an_Echo_through cd_Echo_through ct_Echo_through), sl_Echo_through⟩) (c_Echo_through : PySem.W.codeIn K cd_Echo_through "Echo.through" = true) (k_Echo_through : PySem.W.keepIn K (.ref f_Echo_through) = true)
    {f_Echo_reach : Addr} {od_Echo_reach an_Echo_reach : Option Addr} {sl_Echo_reach : Array (Option Value)} {oc_Echo_reach kV_Echo_reach dc_Echo_reach pm_Echo_reach cd_Echo_reach ct_Echo_reach : Value}
    (a_Echo_reach : PySem.W.findIn K (.ref c_Echo) "reach" = some (some (.ref f_Echo_reach))) (l_Echo_reach : K.lookup f_Echo_reach = some ⟨oc_Echo_reach, od_Echo_reach, .func (PySem.W.fnOf "reach" "Echo.reach" (defArgs s_Echo_reach) (defBody s_Echo_reach) (defScope s_Echo_reach) .none kV_Echo_reach dc_Echo_reach pm_Echo_reach an_Echo_reach cd_Echo_reach ct_Echo_reach), sl_Echo_reach⟩) (c_Echo_reach : PySem.W.codeIn K cd_Echo_reach "Echo.reach" = true) (k_Echo_reach : PySem.W.keepIn K (.ref f_Echo_reach) = true)
    {f_Back_init : Addr} {od_Back_init an_Back_init : Option Addr} {sl_Back_init : Array (Option Value)} {oc_Back_init kV_Back_init dc_Back_init pm_Back_init cd_Back_init ct_Back_init : Value}
    (a_Back_init : PySem.W.findIn K (.ref c_Back) "__init__" = some (some (.ref f_Back_init))) (l_Back_init : K.lookup f_Back_init = some ⟨oc_Back_init, od_Back_init, .func (PySem.W.fnOf "__init__" "Back.__init__" (defArgs s_Back_init) (defBody s_Back_init) (defScope s_Back_init) .none kV_Back_init dc_Back_init pm_Back_init an_Back_init cd_Back_init ct_Back_init), sl_Back_init⟩) (c_Back_init : PySem.W.codeIn K cd_Back_init "Back.__init__" = true) (k_Back_init : PySem.W.keepIn K (.ref f_Back_init) = true)
    {f_Back_grain : Addr} {od_Back_grain an_Back_grain : Option Addr} {sl_Back_grain : Array (Option Value)} {oc_Back_grain kV_Back_grain dc_Back_grain pm_Back_grain cd_Back_grain ct_Back_grain : Value}
    (a_Back_grain : PySem.W.findIn K (.ref c_Back) "grain" = some (some (.ref f_Back_grain))) (l_Back_grain : K.lookup f_Back_grain = some ⟨oc_Back_grain, od_Back_grain, .func (PySem.W.fnOf "grain" "Back.grain" (defArgs s_Back_grain) (defBody s_Back_grain) (defScope s_Back_grain) .none kV_Back_grain dc_Back_grain pm_Back_grain an_Back_grain cd_Back_grain ct_Back_grain), sl_Back_grain⟩) (c_Back_grain : PySem.W.codeIn K cd_Back_grain "Back.grain" = true) (k_Back_grain : PySem.W.keepIn K (.ref f_Back_grain) = true)
    {f_Back_through : Addr} {od_Back_through an_Back_through : Option Addr} {sl_Back_through : Array (Option Value)} {oc_Back_through kV_Back_through dc_Back_through pm_Back_through cd_Back_through ct_Back_through : Value}
    (a_Back_through : PySem.W.findIn K (.ref c_Back) "through" = some (some (.ref f_Back_through))) (l_Back_through : K.lookup f_Back_through = some ⟨oc_Back_through, od_Back_through, .func (PySem.W.fnOf "through" "Back.through" (defArgs s_Back_through) (defBody s_Back_through) (defScope s_Back_through) .none kV_Back_through dc_Back_through pm_Back_through an_Back_through cd_Back_through ct_Back_through), sl_Back_through⟩) (c_Back_through : PySem.W.codeIn K cd_Back_through "Back.through" = true) (k_Back_through : PySem.W.keepIn K (.ref f_Back_through) = true)
    {f_Hall_init : Addr} {od_Hall_init an_Hall_init : Option Addr} {sl_Hall_init : Array (Option Value)} {oc_Hall_init kV_Hall_init dc_Hall_init pm_Hall_init cd_Hall_init ct_Hall_init : Value}
    (a_Hall_init : PySem.W.findIn K (.ref c_Hall) "__init__" = some (some (.ref f_Hall_init))) (l_Hall_init : K.lookup f_Hall_init = some ⟨oc_Hall_init, od_Hall_init, .func (PySem.W.fnOf "__init__" "Hall.__init__" (defArgs s_Hall_init) (defBody s_Hall_init) (defScope s_Hall_init) .none kV_Hall_init dc_Hall_init pm_Hall_init an_Hall_init cd_Hall_init ct_Hall_init), sl_Hall_init⟩) (c_Hall_init : PySem.W.codeIn K cd_Hall_init "Hall.__init__" = true) (k_Hall_init : PySem.W.keepIn K (.ref f_Hall_init) = true)
    {f_Hall_through : Addr} {od_Hall_through an_Hall_through : Option Addr} {sl_Hall_through : Array (Option Value)} {oc_Hall_through kV_Hall_through dc_Hall_through pm_Hall_through cd_Hall_through ct_Hall_through : Value}
    (a_Hall_through : PySem.W.findIn K (.ref c_Hall) "through" = some (some (.ref f_Hall_through))) (l_Hall_through : K.lookup f_Hall_through = some ⟨oc_Hall_through, od_Hall_through, .func (PySem.W.fnOf "through" "Hall.through" (defArgs s_Hall_through) (defBody s_Hall_through) (defScope s_Hall_through) .none kV_Hall_through dc_Hall_through pm_Hall_through an_Hall_through cd_Hall_through ct_Hall_through), sl_Hall_through⟩) (c_Hall_through : PySem.W.codeIn K cd_Hall_through "Hall.through" = true) (k_Hall_through : PySem.W.keepIn K (.ref f_Hall_through) = true)
    {f_shared_bottom : Addr} {od_shared_bottom an_shared_bottom : Option Addr} {sl_shared_bottom : Array (Option Value)} {oc_shared_bottom kV_shared_bottom dc_shared_bottom pm_shared_bottom cd_shared_bottom ct_shared_bottom : Value}
    (a_shared_bottom : PySem.W.nsIn K mainGlobals "shared_bottom" = some (some (.ref f_shared_bottom))) (l_shared_bottom : K.lookup f_shared_bottom = some ⟨oc_shared_bottom, od_shared_bottom, .func (PySem.W.fnOf "shared_bottom" "shared_bottom" (defArgs s_shared_bottom) (defBody s_shared_bottom) (defScope s_shared_bottom) .none kV_shared_bottom dc_shared_bottom pm_shared_bottom an_shared_bottom cd_shared_bottom ct_shared_bottom), sl_shared_bottom⟩) (c_shared_bottom : PySem.W.codeIn K cd_shared_bottom "shared_bottom" = true) (k_shared_bottom : PySem.W.keepIn K (.ref f_shared_bottom) = true)
    {f_slopes_of : Addr} {od_slopes_of an_slopes_of : Option Addr} {sl_slopes_of : Array (Option Value)} {oc_slopes_of kV_slopes_of dc_slopes_of pm_slopes_of cd_slopes_of ct_slopes_of : Value}
    (a_slopes_of : PySem.W.nsIn K mainGlobals "slopes_of" = some (some (.ref f_slopes_of))) (l_slopes_of : K.lookup f_slopes_of = some ⟨oc_slopes_of, od_slopes_of, .func (PySem.W.fnOf "slopes_of" "slopes_of" (defArgs s_slopes_of) (defBody s_slopes_of) (defScope s_slopes_of) .none kV_slopes_of dc_slopes_of pm_slopes_of an_slopes_of cd_slopes_of ct_slopes_of), sl_slopes_of⟩) (c_slopes_of : PySem.W.codeIn K cd_slopes_of "slopes_of" = true) (k_slopes_of : PySem.W.keepIn K (.ref f_slopes_of) = true)
    {f_over : Addr} {od_over an_over : Option Addr} {sl_over : Array (Option Value)} {oc_over kV_over dc_over pm_over cd_over ct_over : Value}
    (a_over : PySem.W.nsIn K mainGlobals "over" = some (some (.ref f_over))) (l_over : K.lookup f_over = some ⟨oc_over, od_over, .func (PySem.W.fnOf "over" "over" (defArgs s_over) (defBody s_over) (defScope s_over) .none kV_over dc_over pm_over an_over cd_over ct_over), sl_over⟩) (c_over : PySem.W.codeIn K cd_over "over" = true) (k_over : PySem.W.keepIn K (.ref f_over) = true)
    {f_Swell_init : Addr} {od_Swell_init an_Swell_init : Option Addr} {sl_Swell_init : Array (Option Value)} {oc_Swell_init kV_Swell_init dc_Swell_init pm_Swell_init cd_Swell_init ct_Swell_init : Value}
    (a_Swell_init : PySem.W.findIn K (.ref c_Swell) "__init__" = some (some (.ref f_Swell_init))) (l_Swell_init : K.lookup f_Swell_init = some ⟨oc_Swell_init, od_Swell_init, .func (PySem.W.fnOf "__init__" "Swell.__init__" (defArgs s_Swell_init) (defBody s_Swell_init) (defScope s_Swell_init) .none kV_Swell_init dc_Swell_init pm_Swell_init an_Swell_init cd_Swell_init ct_Swell_init), sl_Swell_init⟩) (c_Swell_init : PySem.W.codeIn K cd_Swell_init "Swell.__init__" = true) (k_Swell_init : PySem.W.keepIn K (.ref f_Swell_init) = true)
    {f_Swell_grain : Addr} {od_Swell_grain an_Swell_grain : Option Addr} {sl_Swell_grain : Array (Option Value)} {oc_Swell_grain kV_Swell_grain dc_Swell_grain pm_Swell_grain cd_Swell_grain ct_Swell_grain : Value}
    (a_Swell_grain : PySem.W.findIn K (.ref c_Swell) "grain" = some (some (.ref f_Swell_grain))) (l_Swell_grain : K.lookup f_Swell_grain = some ⟨oc_Swell_grain, od_Swell_grain, .func (PySem.W.fnOf "grain" "Swell.grain" (defArgs s_Swell_grain) (defBody s_Swell_grain) (defScope s_Swell_grain) .none kV_Swell_grain dc_Swell_grain pm_Swell_grain an_Swell_grain cd_Swell_grain ct_Swell_grain), sl_Swell_grain⟩) (c_Swell_grain : PySem.W.codeIn K cd_Swell_grain "Swell.grain" = true) (k_Swell_grain : PySem.W.keepIn K (.ref f_Swell_grain) = true)
    {f_Swell_fresh : Addr} {od_Swell_fresh an_Swell_fresh : Option Addr} {sl_Swell_fresh : Array (Option Value)} {oc_Swell_fresh kV_Swell_fresh dc_Swell_fresh pm_Swell_fresh cd_Swell_fresh ct_Swell_fresh : Value}
    (a_Swell_fresh : PySem.W.findIn K (.ref c_Swell) "fresh" = some (some (.ref f_Swell_fresh))) (l_Swell_fresh : K.lookup f_Swell_fresh = some ⟨oc_Swell_fresh, od_Swell_fresh, .func (PySem.W.fnOf "fresh" "Swell.fresh" (defArgs s_Swell_fresh) (defBody s_Swell_fresh) (defScope s_Swell_fresh) .none kV_Swell_fresh dc_Swell_fresh pm_Swell_fresh an_Swell_fresh cd_Swell_fresh ct_Swell_fresh), sl_Swell_fresh⟩) (c_Swell_fresh : PySem.W.codeIn K cd_Swell_fresh "Swell.fresh" = true) (k_Swell_fresh : PySem.W.keepIn K (.ref f_Swell_fresh) = true)
    {f_Swell_line_at : Addr} {od_Swell_line_at an_Swell_line_at : Option Addr} {sl_Swell_line_at : Array (Option Value)} {oc_Swell_line_at kV_Swell_line_at dc_Swell_line_at pm_Swell_line_at cd_Swell_line_at ct_Swell_line_at : Value}
    (a_Swell_line_at : PySem.W.findIn K (.ref c_Swell) "line_at" = some (some (.ref f_Swell_line_at))) (l_Swell_line_at : K.lookup f_Swell_line_at = some ⟨oc_Swell_line_at, od_Swell_line_at, .func (PySem.W.fnOf "line_at" "Swell.line_at" (defArgs s_Swell_line_at) (defBody s_Swell_line_at) (defScope s_Swell_line_at) .none kV_Swell_line_at dc_Swell_line_at pm_Swell_line_at an_Swell_line_at cd_Swell_line_at ct_Swell_line_at), sl_Swell_line_at⟩) (c_Swell_line_at : PySem.W.codeIn K cd_Swell_line_at "Swell.line_at" = true) (k_Swell_line_at : PySem.W.keepIn K (.ref f_Swell_line_at) = true)
    {f_Swell_gain_at : Addr} {od_Swell_gain_at an_Swell_gain_at : Option Addr} {sl_Swell_gain_at : Array (Option Value)} {oc_Swell_gain_at kV_Swell_gain_at dc_Swell_gain_at pm_Swell_gain_at cd_Swell_gain_at ct_Swell_gain_at : Value}
    (a_Swell_gain_at : PySem.W.findIn K (.ref c_Swell) "gain_at" = some (some (.ref f_Swell_gain_at))) (l_Swell_gain_at : K.lookup f_Swell_gain_at = some ⟨oc_Swell_gain_at, od_Swell_gain_at, .func (PySem.W.fnOf "gain_at" "Swell.gain_at" (defArgs s_Swell_gain_at) (defBody s_Swell_gain_at) (defScope s_Swell_gain_at) .none kV_Swell_gain_at dc_Swell_gain_at pm_Swell_gain_at an_Swell_gain_at cd_Swell_gain_at ct_Swell_gain_at), sl_Swell_gain_at⟩) (c_Swell_gain_at : PySem.W.codeIn K cd_Swell_gain_at "Swell.gain_at" = true) (k_Swell_gain_at : PySem.W.keepIn K (.ref f_Swell_gain_at) = true)
    {f_Swell_through : Addr} {od_Swell_through an_Swell_through : Option Addr} {sl_Swell_through : Array (Option Value)} {oc_Swell_through kV_Swell_through dc_Swell_through pm_Swell_through cd_Swell_through ct_Swell_through : Value}
    (a_Swell_through : PySem.W.findIn K (.ref c_Swell) "through" = some (some (.ref f_Swell_through))) (l_Swell_through : K.lookup f_Swell_through = some ⟨oc_Swell_through, od_Swell_through, .func (PySem.W.fnOf "through" "Swell.through" (defArgs s_Swell_through) (defBody s_Swell_through) (defScope s_Swell_through) .none kV_Swell_through dc_Swell_through pm_Swell_through an_Swell_through cd_Swell_through ct_Swell_through), sl_Swell_through⟩) (c_Swell_through : PySem.W.codeIn K cd_Swell_through "Swell.through" = true) (k_Swell_through : PySem.W.keepIn K (.ref f_Swell_through) = true)
    {f_read_gain : Addr} {od_read_gain an_read_gain : Option Addr} {sl_read_gain : Array (Option Value)} {oc_read_gain kV_read_gain dc_read_gain pm_read_gain cd_read_gain ct_read_gain : Value}
    (a_read_gain : PySem.W.nsIn K mainGlobals "read_gain" = some (some (.ref f_read_gain))) (l_read_gain : K.lookup f_read_gain = some ⟨oc_read_gain, od_read_gain, .func (PySem.W.fnOf "read_gain" "read_gain" (defArgs s_read_gain) (defBody s_read_gain) (defScope s_read_gain) .none kV_read_gain dc_read_gain pm_read_gain an_read_gain cd_read_gain ct_read_gain), sl_read_gain⟩) (c_read_gain : PySem.W.codeIn K cd_read_gain "read_gain" = true) (k_read_gain : PySem.W.keepIn K (.ref f_read_gain) = true)
    {f_read_number : Addr} {od_read_number an_read_number : Option Addr} {sl_read_number : Array (Option Value)} {oc_read_number kV_read_number dc_read_number pm_read_number cd_read_number ct_read_number : Value}
    (a_read_number : PySem.W.nsIn K mainGlobals "read_number" = some (some (.ref f_read_number))) (l_read_number : K.lookup f_read_number = some ⟨oc_read_number, od_read_number, .func (PySem.W.fnOf "read_number" "read_number" (defArgs s_read_number) (defBody s_read_number) (defScope s_read_number) .none kV_read_number dc_read_number pm_read_number an_read_number cd_read_number ct_read_number), sl_read_number⟩) (c_read_number : PySem.W.codeIn K cd_read_number "read_number" = true) (k_read_number : PySem.W.keepIn K (.ref f_read_number) = true)
    {f_read_many : Addr} {od_read_many an_read_many : Option Addr} {sl_read_many : Array (Option Value)} {oc_read_many kV_read_many dc_read_many pm_read_many cd_read_many ct_read_many : Value}
    (a_read_many : PySem.W.nsIn K mainGlobals "read_many" = some (some (.ref f_read_many))) (l_read_many : K.lookup f_read_many = some ⟨oc_read_many, od_read_many, .func (PySem.W.fnOf "read_many" "read_many" (defArgs s_read_many) (defBody s_read_many) (defScope s_read_many) .none kV_read_many dc_read_many pm_read_many an_read_many cd_read_many ct_read_many), sl_read_many⟩) (c_read_many : PySem.W.codeIn K cd_read_many "read_many" = true) (k_read_many : PySem.W.keepIn K (.ref f_read_many) = true)
    {f_check_count : Addr} {od_check_count an_check_count : Option Addr} {sl_check_count : Array (Option Value)} {oc_check_count kV_check_count dc_check_count pm_check_count cd_check_count ct_check_count : Value}
    (a_check_count : PySem.W.nsIn K mainGlobals "check_count" = some (some (.ref f_check_count))) (l_check_count : K.lookup f_check_count = some ⟨oc_check_count, od_check_count, .func (PySem.W.fnOf "check_count" "check_count" (defArgs s_check_count) (defBody s_check_count) (defScope s_check_count) .none kV_check_count dc_check_count pm_check_count an_check_count cd_check_count ct_check_count), sl_check_count⟩) (c_check_count : PySem.W.codeIn K cd_check_count "check_count" = true) (k_check_count : PySem.W.keepIn K (.ref f_check_count) = true)
    {f_gain_of : Addr} {od_gain_of an_gain_of : Option Addr} {sl_gain_of : Array (Option Value)} {oc_gain_of kV_gain_of dc_gain_of pm_gain_of cd_gain_of ct_gain_of : Value}
    (a_gain_of : PySem.W.nsIn K mainGlobals "gain_of" = some (some (.ref f_gain_of))) (l_gain_of : K.lookup f_gain_of = some ⟨oc_gain_of, od_gain_of, .func (PySem.W.fnOf "gain_of" "gain_of" (defArgs s_gain_of) (defBody s_gain_of) (defScope s_gain_of) .none kV_gain_of dc_gain_of pm_gain_of an_gain_of cd_gain_of ct_gain_of), sl_gain_of⟩) (c_gain_of : PySem.W.codeIn K cd_gain_of "gain_of" = true) (k_gain_of : PySem.W.keepIn K (.ref f_gain_of) = true)
    {f_delay_of : Addr} {od_delay_of an_delay_of : Option Addr} {sl_delay_of : Array (Option Value)} {oc_delay_of kV_delay_of dc_delay_of pm_delay_of cd_delay_of ct_delay_of : Value}
    (a_delay_of : PySem.W.nsIn K mainGlobals "delay_of" = some (some (.ref f_delay_of))) (l_delay_of : K.lookup f_delay_of = some ⟨oc_delay_of, od_delay_of, .func (PySem.W.fnOf "delay_of" "delay_of" (defArgs s_delay_of) (defBody s_delay_of) (defScope s_delay_of) .none kV_delay_of dc_delay_of pm_delay_of an_delay_of cd_delay_of ct_delay_of), sl_delay_of⟩) (c_delay_of : PySem.W.codeIn K cd_delay_of "delay_of" = true) (k_delay_of : PySem.W.keepIn K (.ref f_delay_of) = true)
    {f_echo_of : Addr} {od_echo_of an_echo_of : Option Addr} {sl_echo_of : Array (Option Value)} {oc_echo_of kV_echo_of dc_echo_of pm_echo_of cd_echo_of ct_echo_of : Value}
    (a_echo_of : PySem.W.nsIn K mainGlobals "echo_of" = some (some (.ref f_echo_of))) (l_echo_of : K.lookup f_echo_of = some ⟨oc_echo_of, od_echo_of, .func (PySem.W.fnOf "echo_of" "echo_of" (defArgs s_echo_of) (defBody s_echo_of) (defScope s_echo_of) .none kV_echo_of dc_echo_of pm_echo_of an_echo_of cd_echo_of ct_echo_of), sl_echo_of⟩) (c_echo_of : PySem.W.codeIn K cd_echo_of "echo_of" = true) (k_echo_of : PySem.W.keepIn K (.ref f_echo_of) = true)
    {f_back_of : Addr} {od_back_of an_back_of : Option Addr} {sl_back_of : Array (Option Value)} {oc_back_of kV_back_of dc_back_of pm_back_of cd_back_of ct_back_of : Value}
    (a_back_of : PySem.W.nsIn K mainGlobals "back_of" = some (some (.ref f_back_of))) (l_back_of : K.lookup f_back_of = some ⟨oc_back_of, od_back_of, .func (PySem.W.fnOf "back_of" "back_of" (defArgs s_back_of) (defBody s_back_of) (defScope s_back_of) .none kV_back_of dc_back_of pm_back_of an_back_of cd_back_of ct_back_of), sl_back_of⟩) (c_back_of : PySem.W.codeIn K cd_back_of "back_of" = true) (k_back_of : PySem.W.keepIn K (.ref f_back_of) = true)
    {f_hall_of : Addr} {od_hall_of an_hall_of : Option Addr} {sl_hall_of : Array (Option Value)} {oc_hall_of kV_hall_of dc_hall_of pm_hall_of cd_hall_of ct_hall_of : Value}
    (a_hall_of : PySem.W.nsIn K mainGlobals "hall_of" = some (some (.ref f_hall_of))) (l_hall_of : K.lookup f_hall_of = some ⟨oc_hall_of, od_hall_of, .func (PySem.W.fnOf "hall_of" "hall_of" (defArgs s_hall_of) (defBody s_hall_of) (defScope s_hall_of) .none kV_hall_of dc_hall_of pm_hall_of an_hall_of cd_hall_of ct_hall_of), sl_hall_of⟩) (c_hall_of : PySem.W.codeIn K cd_hall_of "hall_of" = true) (k_hall_of : PySem.W.keepIn K (.ref f_hall_of) = true)
    {f_read_corner : Addr} {od_read_corner an_read_corner : Option Addr} {sl_read_corner : Array (Option Value)} {oc_read_corner kV_read_corner dc_read_corner pm_read_corner cd_read_corner ct_read_corner : Value}
    (a_read_corner : PySem.W.nsIn K mainGlobals "read_corner" = some (some (.ref f_read_corner))) (l_read_corner : K.lookup f_read_corner = some ⟨oc_read_corner, od_read_corner, .func (PySem.W.fnOf "read_corner" "read_corner" (defArgs s_read_corner) (defBody s_read_corner) (defScope s_read_corner) .none kV_read_corner dc_read_corner pm_read_corner an_read_corner cd_read_corner ct_read_corner), sl_read_corner⟩) (c_read_corner : PySem.W.codeIn K cd_read_corner "read_corner" = true) (k_read_corner : PySem.W.keepIn K (.ref f_read_corner) = true)
    {f_swell_of : Addr} {od_swell_of an_swell_of : Option Addr} {sl_swell_of : Array (Option Value)} {oc_swell_of kV_swell_of dc_swell_of pm_swell_of cd_swell_of ct_swell_of : Value}
    (a_swell_of : PySem.W.nsIn K mainGlobals "swell_of" = some (some (.ref f_swell_of))) (l_swell_of : K.lookup f_swell_of = some ⟨oc_swell_of, od_swell_of, .func (PySem.W.fnOf "swell_of" "swell_of" (defArgs s_swell_of) (defBody s_swell_of) (defScope s_swell_of) .none kV_swell_of dc_swell_of pm_swell_of an_swell_of cd_swell_of ct_swell_of), sl_swell_of⟩) (c_swell_of : PySem.W.codeIn K cd_swell_of "swell_of" = true) (k_swell_of : PySem.W.keepIn K (.ref f_swell_of) = true)
    {f_part_of : Addr} {od_part_of an_part_of : Option Addr} {sl_part_of : Array (Option Value)} {oc_part_of kV_part_of dc_part_of pm_part_of cd_part_of ct_part_of : Value}
    (a_part_of : PySem.W.nsIn K mainGlobals "part_of" = some (some (.ref f_part_of))) (l_part_of : K.lookup f_part_of = some ⟨oc_part_of, od_part_of, .func (PySem.W.fnOf "part_of" "part_of" (defArgs s_part_of) (defBody s_part_of) (defScope s_part_of) .none kV_part_of dc_part_of pm_part_of an_part_of cd_part_of ct_part_of), sl_part_of⟩) (c_part_of : PySem.W.codeIn K cd_part_of "part_of" = true) (k_part_of : PySem.W.keepIn K (.ref f_part_of) = true)
    {f_law_cell_at : Addr} {od_law_cell_at an_law_cell_at : Option Addr} {sl_law_cell_at : Array (Option Value)} {oc_law_cell_at kV_law_cell_at dc_law_cell_at pm_law_cell_at cd_law_cell_at ct_law_cell_at : Value}
    (a_law_cell_at : PySem.W.nsIn K mainGlobals "_law_cell_at" = some (some (.ref f_law_cell_at))) (l_law_cell_at : K.lookup f_law_cell_at = some ⟨oc_law_cell_at, od_law_cell_at, .func (PySem.W.fnOf "_law_cell_at" "_law_cell_at" (defArgs s_law_cell_at) (defBody s_law_cell_at) (defScope s_law_cell_at) .none kV_law_cell_at dc_law_cell_at pm_law_cell_at an_law_cell_at cd_law_cell_at ct_law_cell_at), sl_law_cell_at⟩) (c_law_cell_at : PySem.W.codeIn K cd_law_cell_at "_law_cell_at" = true) (k_law_cell_at : PySem.W.keepIn K (.ref f_law_cell_at) = true)
    {f_law_whole : Addr} {od_law_whole an_law_whole : Option Addr} {sl_law_whole : Array (Option Value)} {oc_law_whole kV_law_whole dc_law_whole pm_law_whole cd_law_whole ct_law_whole : Value}
    (a_law_whole : PySem.W.nsIn K mainGlobals "_law_whole" = some (some (.ref f_law_whole))) (l_law_whole : K.lookup f_law_whole = some ⟨oc_law_whole, od_law_whole, .func (PySem.W.fnOf "_law_whole" "_law_whole" (defArgs s_law_whole) (defBody s_law_whole) (defScope s_law_whole) .none kV_law_whole dc_law_whole pm_law_whole an_law_whole cd_law_whole ct_law_whole), sl_law_whole⟩) (c_law_whole : PySem.W.codeIn K cd_law_whole "_law_whole" = true) (k_law_whole : PySem.W.keepIn K (.ref f_law_whole) = true)
    {f_law_divisor : Addr} {od_law_divisor an_law_divisor : Option Addr} {sl_law_divisor : Array (Option Value)} {oc_law_divisor kV_law_divisor dc_law_divisor pm_law_divisor cd_law_divisor ct_law_divisor : Value}
    (a_law_divisor : PySem.W.nsIn K mainGlobals "_law_divisor" = some (some (.ref f_law_divisor))) (l_law_divisor : K.lookup f_law_divisor = some ⟨oc_law_divisor, od_law_divisor, .func (PySem.W.fnOf "_law_divisor" "_law_divisor" (defArgs s_law_divisor) (defBody s_law_divisor) (defScope s_law_divisor) .none kV_law_divisor dc_law_divisor pm_law_divisor an_law_divisor cd_law_divisor ct_law_divisor), sl_law_divisor⟩) (c_law_divisor : PySem.W.codeIn K cd_law_divisor "_law_divisor" = true) (k_law_divisor : PySem.W.keepIn K (.ref f_law_divisor) = true)
    {f_law_gain : Addr} {od_law_gain an_law_gain : Option Addr} {sl_law_gain : Array (Option Value)} {oc_law_gain kV_law_gain dc_law_gain pm_law_gain cd_law_gain ct_law_gain : Value}
    (a_law_gain : PySem.W.nsIn K mainGlobals "_law_gain" = some (some (.ref f_law_gain))) (l_law_gain : K.lookup f_law_gain = some ⟨oc_law_gain, od_law_gain, .func (PySem.W.fnOf "_law_gain" "_law_gain" (defArgs s_law_gain) (defBody s_law_gain) (defScope s_law_gain) .none kV_law_gain dc_law_gain pm_law_gain an_law_gain cd_law_gain ct_law_gain), sl_law_gain⟩) (c_law_gain : PySem.W.codeIn K cd_law_gain "_law_gain" = true) (k_law_gain : PySem.W.keepIn K (.ref f_law_gain) = true)
    {f_law_word : Addr} {od_law_word an_law_word : Option Addr} {sl_law_word : Array (Option Value)} {oc_law_word kV_law_word dc_law_word pm_law_word cd_law_word ct_law_word : Value}
    (a_law_word : PySem.W.nsIn K mainGlobals "_law_word" = some (some (.ref f_law_word))) (l_law_word : K.lookup f_law_word = some ⟨oc_law_word, od_law_word, .func (PySem.W.fnOf "_law_word" "_law_word" (defArgs s_law_word) (defBody s_law_word) (defScope s_law_word) .none kV_law_word dc_law_word pm_law_word an_law_word cd_law_word ct_law_word), sl_law_word⟩) (c_law_word : PySem.W.codeIn K cd_law_word "_law_word" = true) (k_law_word : PySem.W.keepIn K (.ref f_law_word) = true)
    {f_law_tops : Addr} {od_law_tops an_law_tops : Option Addr} {sl_law_tops : Array (Option Value)} {oc_law_tops kV_law_tops dc_law_tops pm_law_tops cd_law_tops ct_law_tops : Value}
    (a_law_tops : PySem.W.nsIn K mainGlobals "_law_tops" = some (some (.ref f_law_tops))) (l_law_tops : K.lookup f_law_tops = some ⟨oc_law_tops, od_law_tops, .func (PySem.W.fnOf "_law_tops" "_law_tops" (defArgs s_law_tops) (defBody s_law_tops) (defScope s_law_tops) .none kV_law_tops dc_law_tops pm_law_tops an_law_tops cd_law_tops ct_law_tops), sl_law_tops⟩) (c_law_tops : PySem.W.codeIn K cd_law_tops "_law_tops" = true) (k_law_tops : PySem.W.keepIn K (.ref f_law_tops) = true)
    {f_law_tone : Addr} {od_law_tone an_law_tone : Option Addr} {sl_law_tone : Array (Option Value)} {oc_law_tone kV_law_tone dc_law_tone pm_law_tone cd_law_tone ct_law_tone : Value}
    (a_law_tone : PySem.W.nsIn K mainGlobals "_law_tone" = some (some (.ref f_law_tone))) (l_law_tone : K.lookup f_law_tone = some ⟨oc_law_tone, od_law_tone, .func (PySem.W.fnOf "_law_tone" "_law_tone" (defArgs s_law_tone) (defBody s_law_tone) (defScope s_law_tone) .none kV_law_tone dc_law_tone pm_law_tone an_law_tone cd_law_tone ct_law_tone), sl_law_tone⟩) (c_law_tone : PySem.W.codeIn K cd_law_tone "_law_tone" = true) (k_law_tone : PySem.W.keepIn K (.ref f_law_tone) = true)
    {f_law : Addr} {od_law an_law : Option Addr} {sl_law : Array (Option Value)} {oc_law kV_law dc_law pm_law cd_law ct_law : Value}
    (a_law : PySem.W.nsIn K mainGlobals "law" = some (some (.ref f_law))) (l_law : K.lookup f_law = some ⟨oc_law, od_law, .func (PySem.W.fnOf "law" "law" (defArgs s_law) (defBody s_law) (defScope s_law) .none kV_law dc_law pm_law an_law cd_law ct_law), sl_law⟩) (c_law : PySem.W.codeIn K cd_law "law" = true) (k_law : PySem.W.keepIn K (.ref f_law) = true)
    (z_abs : PySem.W.nsIn K mainGlobals "abs" = some none)
    (z_bool : PySem.W.nsIn K mainGlobals "bool" = some none)
    (z_enumerate : PySem.W.nsIn K mainGlobals "enumerate" = some none)
    (z_int : PySem.W.nsIn K mainGlobals "int" = some none)
    (z_isinstance : PySem.W.nsIn K mainGlobals "isinstance" = some none)
    (z_len : PySem.W.nsIn K mainGlobals "len" = some none)
    (z_list : PySem.W.nsIn K mainGlobals "list" = some none)
    (z_max : PySem.W.nsIn K mainGlobals "max" = some none)
    (z_min : PySem.W.nsIn K mainGlobals "min" = some none)
    (z_range : PySem.W.nsIn K mainGlobals "range" = some none)
    (z_str : PySem.W.nsIn K mainGlobals "str" = some none)
    (z_tuple : PySem.W.nsIn K mainGlobals "tuple" = some none)
    (z_zip : PySem.W.nsIn K mainGlobals "zip" = some none)
    {t_FIGURES : Tok}
    {t_MOST_FIGURES_wholes : Tok}
    {t_MOST_FIGURES_ratios : Tok}
    {t_MOST_GAIN : Tok}
    {t_MOST_MANY : Tok}
    {t_MOST_TURNS : Tok}
    {t_MOST_AT : Tok}
    {t_MOST_CORNERS : Tok}
    {d_READERS : Addr} {es_READERS : Array DictEntry} {n_READERS : Nat}
    (cl_Part_pg : PySem.W.plainGet K c_Part Str.empty = true)
    (cl_Part_hd : PySem.W.hasDictIn K c_Part = true)
    (cl_Part_po : PySem.W.plainOver K c_Part = true)
    (cl_Part_sa : PySem.W.findIn K (.ref c_Part) "__setattr__" = some (some (.builtin "object.__setattr__")))
    (me_Part_grain_fn : PySem.W.isFn K (.ref f_Part_grain) = true)
    (me_Part_fresh_fn : PySem.W.isFn K (.ref f_Part_fresh) = true)
    (cl_Gain_pg : PySem.W.plainGet K c_Gain Str.empty = true)
    (cl_Gain_hd : PySem.W.hasDictIn K c_Gain = true)
    (cl_Gain_po : PySem.W.plainOver K c_Gain = true)
    (cl_Gain_sa : PySem.W.findIn K (.ref c_Gain) "__setattr__" = some (some (.builtin "object.__setattr__")))
    (na_Gain_gain : PySem.W.findIn K (.ref c_Gain) "gain" = some none)
    (me_Gain___init___fn : PySem.W.isFn K (.ref f_Gain_init) = true)
    (mk_Gain_ma : PySem.W.makesIn K c_Gain = true)
    (mk_Gain_kp : PySem.W.keepIn K (.ref c_Gain) = true)
    (me_Gain_grain_fn : PySem.W.isFn K (.ref f_Gain_grain) = true)
    (me_Gain_through_fn : PySem.W.isFn K (.ref f_Gain_through) = true)
    (me_Gain_fresh_at : PySem.W.findIn K (.ref c_Gain) "fresh" = some (some (.ref f_Part_fresh)))
    (me_Gain_fresh_fn : PySem.W.isFn K (.ref f_Part_fresh) = true)
    (cl_Delay_pg : PySem.W.plainGet K c_Delay Str.empty = true)
    (cl_Delay_hd : PySem.W.hasDictIn K c_Delay = true)
    (cl_Delay_po : PySem.W.plainOver K c_Delay = true)
    (cl_Delay_sa : PySem.W.findIn K (.ref c_Delay) "__setattr__" = some (some (.builtin "object.__setattr__")))
    (na_Delay_many : PySem.W.findIn K (.ref c_Delay) "many" = some none)
    (me_Delay___init___fn : PySem.W.isFn K (.ref f_Delay_init) = true)
    (mk_Delay_ma : PySem.W.makesIn K c_Delay = true)
    (mk_Delay_kp : PySem.W.keepIn K (.ref c_Delay) = true)
    (me_Delay_through_fn : PySem.W.isFn K (.ref f_Delay_through) = true)
    (me_Delay_grain_at : PySem.W.findIn K (.ref c_Delay) "grain" = some (some (.ref f_Part_grain)))
    (me_Delay_grain_fn : PySem.W.isFn K (.ref f_Part_grain) = true)
    (me_Delay_fresh_at : PySem.W.findIn K (.ref c_Delay) "fresh" = some (some (.ref f_Part_fresh)))
    (me_Delay_fresh_fn : PySem.W.isFn K (.ref f_Part_fresh) = true)
    (cl_Echo_pg : PySem.W.plainGet K c_Echo Str.empty = true)
    (cl_Echo_hd : PySem.W.hasDictIn K c_Echo = true)
    (cl_Echo_po : PySem.W.plainOver K c_Echo = true)
    (cl_Echo_sa : PySem.W.findIn K (.ref c_Echo) "__setattr__" = some (some (.builtin "object.__setattr__")))
    (na_Echo_gain : PySem.W.findIn K (.ref c_Echo) "gain" = some none)
    (na_Echo_many : PySem.W.findIn K (.ref c_Echo) "many" = some none)
    (na_Echo_turns : PySem.W.findIn K (.ref c_Echo) "turns" = some none)
    (na_Echo_factors : PySem.W.findIn K (.ref c_Echo) "factors" = some none)
    (na_Echo_factor_bottom : PySem.W.findIn K (.ref c_Echo) "factor_bottom" = some none)
    (me_Echo___init___fn : PySem.W.isFn K (.ref f_Echo_init) = true)
    (mk_Echo_ma : PySem.W.makesIn K c_Echo = true)
    (mk_Echo_kp : PySem.W.keepIn K (.ref c_Echo) = true)
    (me_Echo_grain_fn : PySem.W.isFn K (.ref f_Echo_grain) = true)
    (me_Echo_through_fn : PySem.W.isFn K (.ref f_Echo_through) = true)
    (me_Echo_reach_fn : PySem.W.isFn K (.ref f_Echo_reach) = true)
    (me_Echo_fresh_at : PySem.W.findIn K (.ref c_Echo) "fresh" = some (some (.ref f_Part_fresh)))
    (me_Echo_fresh_fn : PySem.W.isFn K (.ref f_Part_fresh) = true)
    (cl_Back_pg : PySem.W.plainGet K c_Back Str.empty = true)
    (cl_Back_hd : PySem.W.hasDictIn K c_Back = true)
    (cl_Back_po : PySem.W.plainOver K c_Back = true)
    (cl_Back_sa : PySem.W.findIn K (.ref c_Back) "__setattr__" = some (some (.builtin "object.__setattr__")))
    (na_Back_gain : PySem.W.findIn K (.ref c_Back) "gain" = some none)
    (na_Back_many : PySem.W.findIn K (.ref c_Back) "many" = some none)
    (me_Back___init___fn : PySem.W.isFn K (.ref f_Back_init) = true)
    (mk_Back_ma : PySem.W.makesIn K c_Back = true)
    (mk_Back_kp : PySem.W.keepIn K (.ref c_Back) = true)
    (me_Back_grain_fn : PySem.W.isFn K (.ref f_Back_grain) = true)
    (me_Back_through_fn : PySem.W.isFn K (.ref f_Back_through) = true)
    (me_Back_fresh_at : PySem.W.findIn K (.ref c_Back) "fresh" = some (some (.ref f_Part_fresh)))
    (me_Back_fresh_fn : PySem.W.isFn K (.ref f_Part_fresh) = true)
    (cl_Hall_pg : PySem.W.plainGet K c_Hall Str.empty = true)
    (cl_Hall_hd : PySem.W.hasDictIn K c_Hall = true)
    (cl_Hall_po : PySem.W.plainOver K c_Hall = true)
    (cl_Hall_sa : PySem.W.findIn K (.ref c_Hall) "__setattr__" = some (some (.builtin "object.__setattr__")))
    (na_Hall_gain : PySem.W.findIn K (.ref c_Hall) "gain" = some none)
    (na_Hall_many : PySem.W.findIn K (.ref c_Hall) "many" = some none)
    (me_Hall___init___fn : PySem.W.isFn K (.ref f_Hall_init) = true)
    (mk_Hall_ma : PySem.W.makesIn K c_Hall = true)
    (mk_Hall_kp : PySem.W.keepIn K (.ref c_Hall) = true)
    (me_Hall_through_fn : PySem.W.isFn K (.ref f_Hall_through) = true)
    (me_Hall_grain_at : PySem.W.findIn K (.ref c_Hall) "grain" = some (some (.ref f_Part_grain)))
    (me_Hall_grain_fn : PySem.W.isFn K (.ref f_Part_grain) = true)
    (me_Hall_fresh_at : PySem.W.findIn K (.ref c_Hall) "fresh" = some (some (.ref f_Part_fresh)))
    (me_Hall_fresh_fn : PySem.W.isFn K (.ref f_Part_fresh) = true)
    (cl_Swell_pg : PySem.W.plainGet K c_Swell Str.empty = true)
    (cl_Swell_hd : PySem.W.hasDictIn K c_Swell = true)
    (cl_Swell_po : PySem.W.plainOver K c_Swell = true)
    (cl_Swell_sa : PySem.W.findIn K (.ref c_Swell) "__setattr__" = some (some (.builtin "object.__setattr__")))
    (na_Swell_corners : PySem.W.findIn K (.ref c_Swell) "corners" = some none)
    (na_Swell_shared : PySem.W.findIn K (.ref c_Swell) "shared" = some none)
    (na_Swell_lines : PySem.W.findIn K (.ref c_Swell) "lines" = some none)
    (me_Swell___init___fn : PySem.W.isFn K (.ref f_Swell_init) = true)
    (mk_Swell_ma : PySem.W.makesIn K c_Swell = true)
    (mk_Swell_kp : PySem.W.keepIn K (.ref c_Swell) = true)
    (me_Swell_grain_fn : PySem.W.isFn K (.ref f_Swell_grain) = true)
    (me_Swell_fresh_fn : PySem.W.isFn K (.ref f_Swell_fresh) = true)
    (me_Swell_line_at_fn : PySem.W.isFn K (.ref f_Swell_line_at) = true)
    (me_Swell_gain_at_fn : PySem.W.isFn K (.ref f_Swell_gain_at) = true)
    (me_Swell_through_fn : PySem.W.isFn K (.ref f_Swell_through) = true)
    (mk_FIGURES : PySem.W.nsIn K mainGlobals "FIGURES" = some (some (.str "0123456789" t_FIGURES)))
    (mk_MOST_FIGURES_wholes : PySem.W.nsIn K mainGlobals "MOST_FIGURES_wholes" = some (some (.int 13 t_MOST_FIGURES_wholes)))
    (mk_MOST_FIGURES_ratios : PySem.W.nsIn K mainGlobals "MOST_FIGURES_ratios" = some (some (.int 9 t_MOST_FIGURES_ratios)))
    (mk_MOST_GAIN : PySem.W.nsIn K mainGlobals "MOST_GAIN" = some (some (.int 1000 t_MOST_GAIN)))
    (mk_MOST_MANY : PySem.W.nsIn K mainGlobals "MOST_MANY" = some (some (.int 1000 t_MOST_MANY)))
    (mk_MOST_TURNS : PySem.W.nsIn K mainGlobals "MOST_TURNS" = some (some (.int 16 t_MOST_TURNS)))
    (mk_MOST_AT : PySem.W.nsIn K mainGlobals "MOST_AT" = some (some (.int 100000 t_MOST_AT)))
    (mk_MOST_CORNERS : PySem.W.nsIn K mainGlobals "MOST_CORNERS" = some (some (.int 12 t_MOST_CORNERS)))
    (md_READERS : PySem.W.nsIn K mainGlobals "READERS" = some (some (.ref d_READERS)))
    (ld_READERS : K.lookup d_READERS = some ⟨.type "dict", none, .dict es_READERS n_READERS, #[]⟩)
    (kd_READERS : PySem.W.KeysLit w.params es_READERS.toList)
    (nd_READERS : (d_READERS == sysModules) = false)
    (rd_READERS_gain : PySem.W.nsIn K d_READERS "gain" = some (some (.ref f_gain_of)))
    (rd_READERS_delay : PySem.W.nsIn K d_READERS "delay" = some (some (.ref f_delay_of)))
    (rd_READERS_echo : PySem.W.nsIn K d_READERS "echo" = some (some (.ref f_echo_of)))
    (rd_READERS_back : PySem.W.nsIn K d_READERS "back" = some (some (.ref f_back_of)))
    (rd_READERS_swell : PySem.W.nsIn K d_READERS "swell" = some (some (.ref f_swell_of)))
    (rd_READERS_hall : PySem.W.nsIn K d_READERS "hall" = some (some (.ref f_hall_of)))
    : ∃ fd : FuncData, (∀ (s : Shared) (v : Value), BindsTo s fd ⟨[v], []⟩ [("_law_script", v)]) ∧ ∀ base : Heap, K.In base → base.Ns mainGlobals mg → FnOk l.prog w K mg base CX0 9 fa fd ["_law_script"] (spLawOf 63 K) := by
  have e := hfa.symm.trans (PySem.W.mg_of X G a_law)
  cases e
  have F_is_whole := fun_mk (st := s_is_whole) l_is_whole c_is_whole k_is_whole
  have b_is_whole := F_is_whole.binds (ps := ["value"]) fun _ _ _ _ _ _ us hl => match us, hl with | [_], _ => rfl
  have F_is_figures := fun_mk (st := s_is_figures) l_is_figures c_is_figures k_is_figures
  have b_is_figures := F_is_figures.binds (ps := ["text"]) fun _ _ _ _ _ _ us hl => match us, hl with | [_], _ => rfl
  have F_whole_of := fun_mk (st := s_whole_of) l_whole_of c_whole_of k_whole_of
  have b_whole_of := F_whole_of.binds (ps := ["text"]) fun _ _ _ _ _ _ us hl => match us, hl with | [_], _ => rfl
  have F_divisor := fun_mk (st := s_divisor) l_divisor c_divisor k_divisor
  have b_divisor := F_divisor.binds (ps := ["one", "other"]) fun _ _ _ _ _ _ us hl => match us, hl with | [_, _], _ => rfl
  have F_multiple := fun_mk (st := s_multiple) l_multiple c_multiple k_multiple
  have b_multiple := F_multiple.binds (ps := ["one", "other"]) fun _ _ _ _ _ _ us hl => match us, hl with | [_, _], _ => rfl
  have F_fraction := fun_mk (st := s_fraction) l_fraction c_fraction k_fraction
  have b_fraction := F_fraction.binds (ps := ["top", "bottom"]) fun _ _ _ _ _ _ us hl => match us, hl with | [_, _], _ => rfl
  have F_plus := fun_mk (st := s_plus) l_plus c_plus k_plus
  have b_plus := F_plus.binds (ps := ["one", "other"]) fun _ _ _ _ _ _ us hl => match us, hl with | [_, _], _ => rfl
  have F_times := fun_mk (st := s_times) l_times c_times k_times
  have b_times := F_times.binds (ps := ["one", "other"]) fun _ _ _ _ _ _ us hl => match us, hl with | [_, _], _ => rfl
  have F_size_of := fun_mk (st := s_size_of) l_size_of c_size_of k_size_of
  have b_size_of := F_size_of.binds (ps := ["one"]) fun _ _ _ _ _ _ us hl => match us, hl with | [_], _ => rfl
  have F_is_under := fun_mk (st := s_is_under) l_is_under c_is_under k_is_under
  have b_is_under := F_is_under.binds (ps := ["one", "other"]) fun _ _ _ _ _ _ us hl => match us, hl with | [_, _], _ => rfl
  have F_fraction_text := fun_mk (st := s_fraction_text) l_fraction_text c_fraction_text k_fraction_text
  have b_fraction_text := F_fraction_text.binds (ps := ["one"]) fun _ _ _ _ _ _ us hl => match us, hl with | [_], _ => rfl
  have F_read_fraction := fun_mk (st := s_read_fraction) l_read_fraction c_read_fraction k_read_fraction
  have b_read_fraction := F_read_fraction.binds (ps := ["text"]) fun _ _ _ _ _ _ us hl => match us, hl with | [_], _ => rfl
  have F_added_rows := fun_mk (st := s_added_rows) l_added_rows c_added_rows k_added_rows
  have b_added_rows := F_added_rows.binds (ps := ["one", "other"]) fun _ _ _ _ _ _ us hl => match us, hl with | [_, _], _ => rfl
  have F_times_row := fun_mk (st := s_times_row) l_times_row c_times_row k_times_row
  have b_times_row := F_times_row.binds (ps := ["row", "by"]) fun _ _ _ _ _ _ us hl => match us, hl with | [_, _], _ => rfl
  have F_delayed := fun_mk (st := s_delayed) l_delayed c_delayed k_delayed
  have b_delayed := F_delayed.binds (ps := ["known", "start", "many"]) fun _ _ _ _ _ _ us hl => match us, hl with | [_, _, _], _ => rfl
  have F_last_of := fun_mk (st := s_last_of) l_last_of c_last_of k_last_of
  have b_last_of := F_last_of.binds (ps := ["known", "many"]) fun _ _ _ _ _ _ us hl => match us, hl with | [_, _], _ => rfl
  have F_Part_grain := fun_mk (st := s_Part_grain) l_Part_grain c_Part_grain k_Part_grain
  have b_Part_grain := F_Part_grain.binds (ps := ["self"]) fun _ _ _ _ _ _ us hl => match us, hl with | [_], _ => rfl
  have F_Part_fresh := fun_mk (st := s_Part_fresh) l_Part_fresh c_Part_fresh k_Part_fresh
  have b_Part_fresh := F_Part_fresh.binds (ps := ["self"]) fun _ _ _ _ _ _ us hl => match us, hl with | [_], _ => rfl
  have F_Gain_init := fun_mk (st := s_Gain_init) l_Gain_init c_Gain_init k_Gain_init
  have b_Gain_init := F_Gain_init.binds (ps := ["self", "gain"]) fun _ _ _ _ _ _ us hl => match us, hl with | [_, _], _ => rfl
  have F_Gain_grain := fun_mk (st := s_Gain_grain) l_Gain_grain c_Gain_grain k_Gain_grain
  have b_Gain_grain := F_Gain_grain.binds (ps := ["self"]) fun _ _ _ _ _ _ us hl => match us, hl with | [_], _ => rfl
  have F_Gain_through := fun_mk (st := s_Gain_through) l_Gain_through c_Gain_through k_Gain_through
  have b_Gain_through := F_Gain_through.binds (ps := ["self", "state", "tops", "bottom"]) fun _ _ _ _ _ _ us hl => match us, hl with | [_, _, _, _], _ => rfl
  have F_Delay_init := fun_mk (st := s_Delay_init) l_Delay_init c_Delay_init k_Delay_init
  have b_Delay_init := F_Delay_init.binds (ps := ["self", "many"]) fun _ _ _ _ _ _ us hl => match us, hl with | [_, _], _ => rfl
  have F_Delay_through := fun_mk (st := s_Delay_through) l_Delay_through c_Delay_through k_Delay_through
  have b_Delay_through := F_Delay_through.binds (ps := ["self", "state", "tops", "bottom"]) fun _ _ _ _ _ _ us hl => match us, hl with | [_, _, _, _], _ => rfl
  have F_powers_of := fun_mk (st := s_powers_of) l_powers_of c_powers_of k_powers_of
  have b_powers_of := F_powers_of.binds (ps := ["number", "most"]) fun _ _ _ _ _ _ us hl => match us, hl with | [_, _], _ => rfl
  have F_toward_nought := fun_mk (st := s_toward_nought) l_toward_nought c_toward_nought k_toward_nought
  have b_toward_nought := F_toward_nought.binds (ps := ["top", "bottom"]) fun _ _ _ _ _ _ us hl => match us, hl with | [_, _], _ => rfl
  have F_Echo_init := fun_mk (st := s_Echo_init) l_Echo_init c_Echo_init k_Echo_init
  have b_Echo_init := F_Echo_init.binds (ps := ["self", "gain", "many", "turns"]) fun _ _ _ _ _ _ us hl => match us, hl with | [_, _, _, _], _ => rfl
  have F_Echo_grain := fun_mk (st := s_Echo_grain) l_Echo_grain c_Echo_grain k_Echo_grain
  have b_Echo_grain := F_Echo_grain.binds (ps := ["self"]) fun _ _ _ _ _ _ us hl => match us, hl with | [_], _ => rfl
  have F_Echo_through := fun_mk (st := s_Echo_through) l_Echo_through c_Echo_through k_Echo_through
  have b_Echo_through := F_Echo_through.binds (ps := ["self", "state", "tops", "bottom"]) fun _ _ _ _ _ _ us hl => match us, hl with | [_, _, _, _], _ => rfl
  have F_Echo_reach := fun_mk (st := s_Echo_reach) l_Echo_reach c_Echo_reach k_Echo_reach
  have b_Echo_reach := F_Echo_reach.binds (ps := ["self"]) fun _ _ _ _ _ _ us hl => match us, hl with | [_], _ => rfl
  have F_Back_init := fun_mk (st := s_Back_init) l_Back_init c_Back_init k_Back_init
  have b_Back_init := F_Back_init.binds (ps := ["self", "gain", "many"]) fun _ _ _ _ _ _ us hl => match us, hl with | [_, _, _], _ => rfl
  have F_Back_grain := fun_mk (st := s_Back_grain) l_Back_grain c_Back_grain k_Back_grain
  have b_Back_grain := F_Back_grain.binds (ps := ["self"]) fun _ _ _ _ _ _ us hl => match us, hl with | [_], _ => rfl
  have F_Back_through := fun_mk (st := s_Back_through) l_Back_through c_Back_through k_Back_through
  have b_Back_through := F_Back_through.binds (ps := ["self", "state", "tops", "bottom"]) fun _ _ _ _ _ _ us hl => match us, hl with | [_, _, _, _], _ => rfl
  have F_Hall_init := fun_mk (st := s_Hall_init) l_Hall_init c_Hall_init k_Hall_init
  have b_Hall_init := F_Hall_init.binds (ps := ["self", "gain", "many"]) fun _ _ _ _ _ _ us hl => match us, hl with | [_, _, _], _ => rfl
  have F_Hall_through := fun_mk (st := s_Hall_through) l_Hall_through c_Hall_through k_Hall_through
  have b_Hall_through := F_Hall_through.binds (ps := ["self", "state", "tops", "bottom"]) fun _ _ _ _ _ _ us hl => match us, hl with | [_, _, _, _], _ => rfl
  have F_shared_bottom := fun_mk (st := s_shared_bottom) l_shared_bottom c_shared_bottom k_shared_bottom
  have b_shared_bottom := F_shared_bottom.binds (ps := ["bottoms"]) fun _ _ _ _ _ _ us hl => match us, hl with | [_], _ => rfl
  have F_slopes_of := fun_mk (st := s_slopes_of) l_slopes_of c_slopes_of k_slopes_of
  have b_slopes_of := F_slopes_of.binds (ps := ["corners"]) fun _ _ _ _ _ _ us hl => match us, hl with | [_], _ => rfl
  have F_over := fun_mk (st := s_over) l_over c_over k_over
  have b_over := F_over.binds (ps := ["one", "bottom"]) fun _ _ _ _ _ _ us hl => match us, hl with | [_, _], _ => rfl
  have F_Swell_init := fun_mk (st := s_Swell_init) l_Swell_init c_Swell_init k_Swell_init
  have b_Swell_init := F_Swell_init.binds (ps := ["self", "corners"]) fun _ _ _ _ _ _ us hl => match us, hl with | [_, _], _ => rfl
  have F_Swell_grain := fun_mk (st := s_Swell_grain) l_Swell_grain c_Swell_grain k_Swell_grain
  have b_Swell_grain := F_Swell_grain.binds (ps := ["self"]) fun _ _ _ _ _ _ us hl => match us, hl with | [_], _ => rfl
  have F_Swell_fresh := fun_mk (st := s_Swell_fresh) l_Swell_fresh c_Swell_fresh k_Swell_fresh
  have b_Swell_fresh := F_Swell_fresh.binds (ps := ["self"]) fun _ _ _ _ _ _ us hl => match us, hl with | [_], _ => rfl
  have F_Swell_line_at := fun_mk (st := s_Swell_line_at) l_Swell_line_at c_Swell_line_at k_Swell_line_at
  have b_Swell_line_at := F_Swell_line_at.binds (ps := ["self", "at"]) fun _ _ _ _ _ _ us hl => match us, hl with | [_, _], _ => rfl
  have F_Swell_gain_at := fun_mk (st := s_Swell_gain_at) l_Swell_gain_at c_Swell_gain_at k_Swell_gain_at
  have b_Swell_gain_at := F_Swell_gain_at.binds (ps := ["self", "at"]) fun _ _ _ _ _ _ us hl => match us, hl with | [_, _], _ => rfl
  have F_Swell_through := fun_mk (st := s_Swell_through) l_Swell_through c_Swell_through k_Swell_through
  have b_Swell_through := F_Swell_through.binds (ps := ["self", "state", "tops", "bottom"]) fun _ _ _ _ _ _ us hl => match us, hl with | [_, _, _, _], _ => rfl
  have F_read_gain := fun_mk (st := s_read_gain) l_read_gain c_read_gain k_read_gain
  have b_read_gain := F_read_gain.binds (ps := ["text"]) fun _ _ _ _ _ _ us hl => match us, hl with | [_], _ => rfl
  have F_read_number := fun_mk (st := s_read_number) l_read_number c_read_number k_read_number
  have b_read_number := F_read_number.binds (ps := ["text", "least", "most"]) fun _ _ _ _ _ _ us hl => match us, hl with | [_, _, _], _ => rfl
  have F_read_many := fun_mk (st := s_read_many) l_read_many c_read_many k_read_many
  have b_read_many := F_read_many.binds (ps := ["text"]) fun _ _ _ _ _ _ us hl => match us, hl with | [_], _ => rfl
  have F_check_count := fun_mk (st := s_check_count) l_check_count c_check_count k_check_count
  have b_check_count := F_check_count.binds (ps := ["values", "count"]) fun _ _ _ _ _ _ us hl => match us, hl with | [_, _], _ => rfl
  have F_gain_of := fun_mk (st := s_gain_of) l_gain_of c_gain_of k_gain_of
  have b_gain_of := F_gain_of.binds (ps := ["values"]) fun _ _ _ _ _ _ us hl => match us, hl with | [_], _ => rfl
  have F_delay_of := fun_mk (st := s_delay_of) l_delay_of c_delay_of k_delay_of
  have b_delay_of := F_delay_of.binds (ps := ["values"]) fun _ _ _ _ _ _ us hl => match us, hl with | [_], _ => rfl
  have F_echo_of := fun_mk (st := s_echo_of) l_echo_of c_echo_of k_echo_of
  have b_echo_of := F_echo_of.binds (ps := ["values"]) fun _ _ _ _ _ _ us hl => match us, hl with | [_], _ => rfl
  have F_back_of := fun_mk (st := s_back_of) l_back_of c_back_of k_back_of
  have b_back_of := F_back_of.binds (ps := ["values"]) fun _ _ _ _ _ _ us hl => match us, hl with | [_], _ => rfl
  have F_hall_of := fun_mk (st := s_hall_of) l_hall_of c_hall_of k_hall_of
  have b_hall_of := F_hall_of.binds (ps := ["values"]) fun _ _ _ _ _ _ us hl => match us, hl with | [_], _ => rfl
  have F_read_corner := fun_mk (st := s_read_corner) l_read_corner c_read_corner k_read_corner
  have b_read_corner := F_read_corner.binds (ps := ["text"]) fun _ _ _ _ _ _ us hl => match us, hl with | [_], _ => rfl
  have F_swell_of := fun_mk (st := s_swell_of) l_swell_of c_swell_of k_swell_of
  have b_swell_of := F_swell_of.binds (ps := ["values"]) fun _ _ _ _ _ _ us hl => match us, hl with | [_], _ => rfl
  have F_part_of := fun_mk (st := s_part_of) l_part_of c_part_of k_part_of
  have b_part_of := F_part_of.binds (ps := ["word"]) fun _ _ _ _ _ _ us hl => match us, hl with | [_], _ => rfl
  have F_law_cell_at := fun_mk (st := s_law_cell_at) l_law_cell_at c_law_cell_at k_law_cell_at
  have b_law_cell_at := F_law_cell_at.binds (ps := ["_law_script", "_law_k"]) fun _ _ _ _ _ _ us hl => match us, hl with | [_, _], _ => rfl
  have F_law_whole := fun_mk (st := s_law_whole) l_law_whole c_law_whole k_law_whole
  have b_law_whole := F_law_whole.binds (ps := ["_law_found"]) fun _ _ _ _ _ _ us hl => match us, hl with | [_], _ => rfl
  have F_law_divisor := fun_mk (st := s_law_divisor) l_law_divisor c_law_divisor k_law_divisor
  have b_law_divisor := F_law_divisor.binds (ps := ["_law_one", "_law_other"]) fun _ _ _ _ _ _ us hl => match us, hl with | [_, _], _ => rfl
  have F_law_gain := fun_mk (st := s_law_gain) l_law_gain c_law_gain k_law_gain
  have b_law_gain := F_law_gain.binds (ps := ["_law_mixed", "_law_hall"]) fun _ _ _ _ _ _ us hl => match us, hl with | [_, _], _ => rfl
  have F_law_word := fun_mk (st := s_law_word) l_law_word c_law_word k_law_word
  have b_law_word := F_law_word.binds (ps := ["_law_cell"]) fun _ _ _ _ _ _ us hl => match us, hl with | [_], _ => rfl
  have F_law_tops := fun_mk (st := s_law_tops) l_law_tops c_law_tops k_law_tops
  have b_law_tops := F_law_tops.binds (ps := ["_law_found", "_law_many"]) fun _ _ _ _ _ _ us hl => match us, hl with | [_, _], _ => rfl
  have F_law_tone := fun_mk (st := s_law_tone) l_law_tone c_law_tone k_law_tone
  have b_law_tone := F_law_tone.binds (ps := ["_law_cell"]) fun _ _ _ _ _ _ us hl => match us, hl with | [_], _ => rfl
  have F_law := fun_mk (st := s_law) l_law c_law k_law
  have b_law := F_law.binds (ps := ["_law_script"]) fun _ _ _ _ _ _ us hl => match us, hl with | [_], _ => rfl
  have T : Tx K mg ⟨_, _, _, _, _, _, _, _, _, _, _, _, _, _, _, _, _, _, _, _, _, _, _, _, _, _, _, _, _, _, _, _, _, _, _, _, _, _, _, _, _, _, _, _, _, _, _, _, _, _, _, _, _, _, _, _, _, _, _, _, _, _, _, _, _, _, _, _, _, _, _, _, _, _, _, _, _, _, _, _, _, _, _, _, _, _, _, _, _, _, _, _, _, _, _, _, _, _, _, _, _, _, _, _, _, _, _, _, _, _, _, _, _, _, _, _, _, _, _, _, _, _, _, _, _, _, _, _, _, _, _, _, _, _, _, _, _, _, _, _, _, _, w⟩ := ⟨F_is_whole, b_is_whole, PySem.W.mg_of X G a_is_whole, F_is_figures, b_is_figures, PySem.W.mg_of X G a_is_figures, F_whole_of, b_whole_of, PySem.W.mg_of X G a_whole_of, F_divisor, b_divisor, PySem.W.mg_of X G a_divisor, F_multiple, b_multiple, PySem.W.mg_of X G a_multiple, F_fraction, b_fraction, PySem.W.mg_of X G a_fraction, F_plus, b_plus, PySem.W.mg_of X G a_plus, F_times, b_times, PySem.W.mg_of X G a_times, F_size_of, b_size_of, PySem.W.mg_of X G a_size_of, F_is_under, b_is_under, PySem.W.mg_of X G a_is_under, F_fraction_text, b_fraction_text, PySem.W.mg_of X G a_fraction_text, F_read_fraction, b_read_fraction, PySem.W.mg_of X G a_read_fraction, F_added_rows, b_added_rows, PySem.W.mg_of X G a_added_rows, F_times_row, b_times_row, PySem.W.mg_of X G a_times_row, F_delayed, b_delayed, PySem.W.mg_of X G a_delayed, F_last_of, b_last_of, PySem.W.mg_of X G a_last_of, F_Part_grain, b_Part_grain, F_Part_fresh, b_Part_fresh, F_Gain_init, b_Gain_init, F_Gain_grain, b_Gain_grain, F_Gain_through, b_Gain_through, F_Delay_init, b_Delay_init, F_Delay_through, b_Delay_through, F_powers_of, b_powers_of, PySem.W.mg_of X G a_powers_of, F_toward_nought, b_toward_nought, PySem.W.mg_of X G a_toward_nought, F_Echo_init, b_Echo_init, F_Echo_grain, b_Echo_grain, F_Echo_through, b_Echo_through, F_Echo_reach, b_Echo_reach, F_Back_init, b_Back_init, F_Back_grain, b_Back_grain, F_Back_through, b_Back_through, F_Hall_init, b_Hall_init, F_Hall_through, b_Hall_through, F_shared_bottom, b_shared_bottom, PySem.W.mg_of X G a_shared_bottom, F_slopes_of, b_slopes_of, PySem.W.mg_of X G a_slopes_of, F_over, b_over, PySem.W.mg_of X G a_over, F_Swell_init, b_Swell_init, F_Swell_grain, b_Swell_grain, F_Swell_fresh, b_Swell_fresh, F_Swell_line_at, b_Swell_line_at, F_Swell_gain_at, b_Swell_gain_at, F_Swell_through, b_Swell_through, F_read_gain, b_read_gain, PySem.W.mg_of X G a_read_gain, F_read_number, b_read_number, PySem.W.mg_of X G a_read_number, F_read_many, b_read_many, PySem.W.mg_of X G a_read_many, F_check_count, b_check_count, PySem.W.mg_of X G a_check_count, F_gain_of, b_gain_of, PySem.W.mg_of X G a_gain_of, F_delay_of, b_delay_of, PySem.W.mg_of X G a_delay_of, F_echo_of, b_echo_of, PySem.W.mg_of X G a_echo_of, F_back_of, b_back_of, PySem.W.mg_of X G a_back_of, F_hall_of, b_hall_of, PySem.W.mg_of X G a_hall_of, F_read_corner, b_read_corner, PySem.W.mg_of X G a_read_corner, F_swell_of, b_swell_of, PySem.W.mg_of X G a_swell_of, F_part_of, b_part_of, PySem.W.mg_of X G a_part_of, F_law_cell_at, b_law_cell_at, PySem.W.mg_of X G a_law_cell_at, F_law_whole, b_law_whole, PySem.W.mg_of X G a_law_whole, F_law_divisor, b_law_divisor, PySem.W.mg_of X G a_law_divisor, F_law_gain, b_law_gain, PySem.W.mg_of X G a_law_gain, F_law_word, b_law_word, PySem.W.mg_of X G a_law_word, F_law_tops, b_law_tops, PySem.W.mg_of X G a_law_tops, F_law_tone, b_law_tone, PySem.W.mg_of X G a_law_tone, F_law, b_law, PySem.W.mg_of X G a_law, PySem.W.mg_none_of X G z_abs, PySem.W.mg_none_of X G z_bool, PySem.W.mg_none_of X G z_enumerate, PySem.W.mg_none_of X G z_int, PySem.W.mg_none_of X G z_isinstance, PySem.W.mg_none_of X G z_len, PySem.W.mg_none_of X G z_list, PySem.W.mg_none_of X G z_max, PySem.W.mg_none_of X G z_min, PySem.W.mg_none_of X G z_range, PySem.W.mg_none_of X G z_str, PySem.W.mg_none_of X G z_tuple, PySem.W.mg_none_of X G z_zip, PySem.W.mg_of X G mc_Part, PySem.W.mg_of X G mc_Gain, PySem.W.mg_of X G mc_Delay, PySem.W.mg_of X G mc_Echo, PySem.W.mg_of X G mc_Back, PySem.W.mg_of X G mc_Hall, PySem.W.mg_of X G mc_Swell, ⟨cl_Part_pg, cl_Part_hd, cl_Part_po, cl_Part_sa⟩, ⟨a_Part_grain, me_Part_grain_fn, k_Part_grain⟩, ⟨a_Part_fresh, me_Part_fresh_fn, k_Part_fresh⟩, ⟨cl_Gain_pg, cl_Gain_hd, cl_Gain_po, cl_Gain_sa⟩, na_Gain_gain, ⟨mk_Gain_ma, a_Gain_init, me_Gain___init___fn, mk_Gain_kp⟩, ⟨a_Gain_grain, me_Gain_grain_fn, k_Gain_grain⟩, ⟨a_Gain_through, me_Gain_through_fn, k_Gain_through⟩, ⟨me_Gain_fresh_at, me_Gain_fresh_fn, k_Part_fresh⟩, ⟨cl_Delay_pg, cl_Delay_hd, cl_Delay_po, cl_Delay_sa⟩, na_Delay_many, ⟨mk_Delay_ma, a_Delay_init, me_Delay___init___fn, mk_Delay_kp⟩, ⟨a_Delay_through, me_Delay_through_fn, k_Delay_through⟩, ⟨me_Delay_grain_at, me_Delay_grain_fn, k_Part_grain⟩, ⟨me_Delay_fresh_at, me_Delay_fresh_fn, k_Part_fresh⟩, ⟨cl_Echo_pg, cl_Echo_hd, cl_Echo_po, cl_Echo_sa⟩, na_Echo_gain, na_Echo_many, na_Echo_turns, na_Echo_factors, na_Echo_factor_bottom, ⟨mk_Echo_ma, a_Echo_init, me_Echo___init___fn, mk_Echo_kp⟩, ⟨a_Echo_grain, me_Echo_grain_fn, k_Echo_grain⟩, ⟨a_Echo_through, me_Echo_through_fn, k_Echo_through⟩, ⟨a_Echo_reach, me_Echo_reach_fn, k_Echo_reach⟩, ⟨me_Echo_fresh_at, me_Echo_fresh_fn, k_Part_fresh⟩, ⟨cl_Back_pg, cl_Back_hd, cl_Back_po, cl_Back_sa⟩, na_Back_gain, na_Back_many, ⟨mk_Back_ma, a_Back_init, me_Back___init___fn, mk_Back_kp⟩, ⟨a_Back_grain, me_Back_grain_fn, k_Back_grain⟩, ⟨a_Back_through, me_Back_through_fn, k_Back_through⟩, ⟨me_Back_fresh_at, me_Back_fresh_fn, k_Part_fresh⟩, ⟨cl_Hall_pg, cl_Hall_hd, cl_Hall_po, cl_Hall_sa⟩, na_Hall_gain, na_Hall_many, ⟨mk_Hall_ma, a_Hall_init, me_Hall___init___fn, mk_Hall_kp⟩, ⟨a_Hall_through, me_Hall_through_fn, k_Hall_through⟩, ⟨me_Hall_grain_at, me_Hall_grain_fn, k_Part_grain⟩, ⟨me_Hall_fresh_at, me_Hall_fresh_fn, k_Part_fresh⟩, ⟨cl_Swell_pg, cl_Swell_hd, cl_Swell_po, cl_Swell_sa⟩, na_Swell_corners, na_Swell_shared, na_Swell_lines, ⟨mk_Swell_ma, a_Swell_init, me_Swell___init___fn, mk_Swell_kp⟩, ⟨a_Swell_grain, me_Swell_grain_fn, k_Swell_grain⟩, ⟨a_Swell_fresh, me_Swell_fresh_fn, k_Swell_fresh⟩, ⟨a_Swell_line_at, me_Swell_line_at_fn, k_Swell_line_at⟩, ⟨a_Swell_gain_at, me_Swell_gain_at_fn, k_Swell_gain_at⟩, ⟨a_Swell_through, me_Swell_through_fn, k_Swell_through⟩, PySem.W.mg_of X G mk_FIGURES, ⟨_, rfl⟩, PySem.W.mg_of X G mk_MOST_FIGURES_wholes, ⟨_, rfl⟩, PySem.W.mg_of X G mk_MOST_FIGURES_ratios, ⟨_, rfl⟩, PySem.W.mg_of X G mk_MOST_GAIN, ⟨_, rfl⟩, PySem.W.mg_of X G mk_MOST_MANY, ⟨_, rfl⟩, PySem.W.mg_of X G mk_MOST_TURNS, ⟨_, rfl⟩, PySem.W.mg_of X G mk_MOST_AT, ⟨_, rfl⟩, PySem.W.mg_of X G mk_MOST_CORNERS, ⟨_, rfl⟩, PySem.W.mg_of X G md_READERS, ⟨⟨_, _, ld_READERS, kd_READERS⟩, nd_READERS⟩, rd_READERS_gain, rd_READERS_delay, rd_READERS_echo, rd_READERS_back, rd_READERS_swell, rd_READERS_hall⟩
  exact ⟨_, fun s v => .of_eq rfl, fun base _ _ => ok_law T⟩
end My
namespace PySem.W.Fast
theorem tw12433691711035053059:True:=trivial
theorem tw10958767791033803203:True:=trivial
theorem tw7515511740193079431:True:=trivial
theorem tw8047751521578850855:True:=trivial
theorem tw14120512073059206119:True:=trivial
theorem tw2382429470172550728:True:=trivial
theorem tw11534974484761278184:True:=trivial
theorem tw8046308717210787113:True:=trivial
theorem tw4562432945819708105:True:=trivial
theorem tw5142650821881827343:True:=trivial
theorem tw8572493374740451855:True:=trivial
theorem tw17690645433230053618:True:=trivial
theorem tw3915567171758904946:True:=trivial
theorem tw10946564360809970167:True:=trivial
theorem tw6339071315839525369:True:=trivial
theorem tw18343643160842250618:True:=trivial
theorem tw984266079318751610:True:=trivial
theorem tw7379776050338785882:True:=trivial
theorem tw13026904857910186651:True:=trivial
theorem tw17384934455765297022:True:=trivial
theorem tw1628727371164407487:True:=trivial
theorem tw14878191497403586371:True:=trivial
theorem tw7010133308683100408:True:=trivial
theorem tw6781210547788044290:True:=trivial
theorem tw11219661493794127433:True:=trivial
theorem tw17542091630347700324:True:=trivial
theorem tw3486579037419415395:True:=trivial
theorem tw506116632953957462:True:=trivial
theorem tw17260114789580684114:True:=trivial
theorem tw16635876642649593471:True:=trivial
theorem tw75746975599880232:True:=trivial
theorem tw17496191087852829597:True:=trivial
theorem tw14919683666945476476:True:=trivial
theorem tw9093321869421767281:True:=trivial
theorem tw4604560300298798397:True:=trivial
theorem tw13445654735792516334:True:=trivial
theorem tw3260412982256316310:True:=trivial
theorem tw15694343742512711163:True:=trivial
theorem tw14085495045404251017:True:=trivial
theorem tw16258818202037509281:True:=trivial
theorem tw10999494600665014308:True:=trivial
theorem tw5792783244490206041:True:=trivial
theorem tw15969672881574179127:True:=trivial
theorem tw16496673258968091078:True:=trivial
theorem tw12249753318857878735:True:=trivial
theorem tw4814416388709745739:True:=trivial
theorem tw2694333515861999420:True:=trivial
theorem tw7616203123713700390:True:=trivial
theorem tw13173701390508984559:True:=trivial
theorem tw490832460507937159:True:=trivial
theorem tw18159055777092218196:True:=trivial
theorem tw10344385233322371337:True:=trivial
theorem tw7831781238547503884:True:=trivial
theorem tw10177529715287741579:True:=trivial
theorem tw5009334751856882187:True:=trivial
theorem tw1530881236974808487:True:=trivial
theorem tw4527329069505755804:True:=trivial
theorem tw16104007843274776002:True:=trivial
theorem tw14329960112169505978:True:=trivial
theorem tw5731396242397716531:True:=trivial
theorem tw7655139780323277432:True:=trivial
theorem tw7189303974147391534:True:=trivial
theorem tw15891536499356354424:True:=trivial
theorem tw12292659593562777197:True:=trivial
theorem tw3517779154359273270:True:=trivial
theorem tw17189855059066282387:True:=trivial
theorem tw9585331029469634764:True:=trivial
theorem tw10298578518657751855:True:=trivial
theorem tw5585188050737745161:True:=trivial
theorem tw16403032915753770989:True:=trivial
theorem tw16894168358419714419:True:=trivial
theorem tw6534526331161526714:True:=trivial
theorem tw2851507881986281958:True:=trivial
theorem tw4431967211396616851:True:=trivial
theorem tw10122474388747755996:True:=trivial
theorem tw1875467950990055869:True:=trivial
theorem tw15231989717574561569:True:=trivial
theorem tw12241356797809825094:True:=trivial
theorem tw13088089806983135882:True:=trivial
theorem tw10493428636081544172:True:=trivial
theorem tw10827959152432677870:True:=trivial
theorem tw14040895276313816209:True:=trivial
theorem tw9768370277096331278:True:=trivial
theorem tw154620359308465090:True:=trivial
theorem tw10397491680518903199:True:=trivial
theorem tw9517317442944390957:True:=trivial
theorem tw68784315402907007:True:=trivial
theorem tw6079481189538380047:True:=trivial
theorem tw2687647596254811801:True:=trivial
theorem tw4503452421240549788:True:=trivial
theorem tw6208606351376688626:True:=trivial
theorem tw5925673011002155457:True:=trivial
theorem tw1400916288398805518:True:=trivial
theorem tw3255562107526513519:True:=trivial
theorem tw4183638033223127440:True:=trivial
theorem tw11935360192419113742:True:=trivial
theorem tw6788625940214226025:True:=trivial
theorem tw7020894357921907501:True:=trivial
theorem tw4639654034378697070:True:=trivial
theorem tw433137959451436900:True:=trivial
theorem tw10366607449834396914:True:=trivial
theorem tw6038222118759597661:True:=trivial
theorem tw1150839939541238548:True:=trivial
theorem tw13639965986630208283:True:=trivial
theorem tw16898815744654744726:True:=trivial
theorem tw12337171420197782517:True:=trivial
theorem tw9476657007376899119:True:=trivial
theorem tw14118732479384049260:True:=trivial
theorem tw15484614443167469023:True:=trivial
theorem tw17741088755950936033:True:=trivial
theorem tw12954449981826416033:True:=trivial
theorem tw9110852633190046828:True:=trivial
theorem tw1584021810932725129:True:=trivial
theorem tw15492485169877823183:True:=trivial
theorem tw4792773226455959534:True:=trivial
theorem tw6752394536503589831:True:=trivial
theorem tw4280854145916376820:True:=trivial
theorem tw6647571837782695963:True:=trivial
theorem tw14058465371578971325:True:=trivial
theorem tw15953182031981456389:True:=trivial
theorem tw1959590077564760760:True:=trivial
theorem tw2146770574737636682:True:=trivial
theorem tw1383626368717704903:True:=trivial
theorem tw17909001622504737114:True:=trivial
theorem tw4321919349324642095:True:=trivial
theorem tw1664554893189659111:True:=trivial
theorem tw11589762327709565904:True:=trivial
theorem tw4647515698252352416:True:=trivial
theorem tw2457184339080563071:True:=trivial
theorem tw3240922021378782371:True:=trivial
theorem tw17005302090261032407:True:=trivial
theorem tw8472126170980220636:True:=trivial
theorem tw4275201527256193316:True:=trivial
theorem tw15287639446620990782:True:=trivial
theorem tw11119348403278620003:True:=trivial
theorem tw9169814401770194494:True:=trivial
theorem tw15097189235615024487:True:=trivial
theorem tw8076547647718670655:True:=trivial
theorem tw7147340090400748547:True:=trivial
theorem tw13479522912651080968:True:=trivial
theorem tw746656365200023139:True:=trivial
theorem tw9640915499939953280:True:=trivial
theorem tw2029124196574154799:True:=trivial
theorem tw16253742602347604260:True:=trivial
theorem tw9661997083286540774:True:=trivial
theorem tw17086033338220718862:True:=trivial
theorem tw10380230620784347201:True:=trivial
theorem tw11339959097180625554:True:=trivial
theorem tw15912467972409501801:True:=trivial
theorem tw9721327490029791987:True:=trivial
theorem tw16127108015002037463:True:=trivial
theorem tw14289351672980234821:True:=trivial
theorem tw5574660255360081992:True:=trivial
theorem tw5819300810689823834:True:=trivial
theorem tw151982942497119730:True:=trivial
theorem tw2000668242931470652:True:=trivial
theorem tw13150561954697425099:True:=trivial
theorem tw17140243505931090143:True:=trivial
theorem tw929558569802876546:True:=trivial
theorem tw13799965131425808776:True:=trivial
theorem tw1052677959427507139:True:=trivial
theorem tw4616512965509374021:True:=trivial
theorem tw10344565596743537227:True:=trivial
theorem tw15651925189347075674:True:=trivial
theorem tw17651740307941857172:True:=trivial
theorem tw12402532357038388590:True:=trivial
theorem tw318662769220534468:True:=trivial
theorem tw13625638238813726081:True:=trivial
theorem tw3670280922516795243:True:=trivial
theorem tw654341306517347863:True:=trivial
theorem tw9740217313234555734:True:=trivial
theorem tw15608811016236604732:True:=trivial
theorem tw5595481239338208880:True:=trivial
theorem tw16759321408128106295:True:=trivial
theorem tw14945186534413186928:True:=trivial
theorem tw2545885227990576196:True:=trivial
theorem tw14293372340700962374:True:=trivial
theorem tw1462014534687950673:True:=trivial
theorem tw4837175922935633767:True:=trivial
theorem tw4654271081502927666:True:=trivial
theorem tw15605770741059257864:True:=trivial
theorem tw11671904069255463273:True:=trivial
theorem tw13242238166792165917:True:=trivial
theorem tw9002045576505470303:True:=trivial
theorem tw17504808838508077019:True:=trivial
theorem tw16024958064218954777:True:=trivial
theorem tw4253189889241401875:True:=trivial
theorem tw11354944088867693750:True:=trivial
theorem tw9530146276225426312:True:=trivial
theorem tw8479358020580859133:True:=trivial
theorem tw472849745724406213:True:=trivial
theorem tw17168256962200411131:True:=trivial
theorem tw6583633247473667376:True:=trivial
theorem tw7186826911780547354:True:=trivial
theorem tw16931192132770511524:True:=trivial
theorem tw13261224511964659998:True:=trivial
theorem tw7479227012814727702:True:=trivial
theorem tw6899117250465807940:True:=trivial
theorem tw916826209029848880:True:=trivial
theorem tw15546678402856297523:True:=trivial
theorem tw9463415554267292618:True:=trivial
theorem tw10715940349791943703:True:=trivial
theorem tw3440671532839511302:True:=trivial
theorem tw127419263332852953:True:=trivial
theorem tw1598887227658038488:True:=trivial
theorem tw11589170327060354374:True:=trivial
theorem tw6482698011443602653:True:=trivial
theorem tw6314657423666673796:True:=trivial
theorem tw2426951363867025511:True:=trivial
theorem tw13603089646383409871:True:=trivial
theorem tw8663861444900269294:True:=trivial
theorem tw15854336620396532440:True:=trivial
theorem tw17770038861473850896:True:=trivial
theorem tw1271690895859914962:True:=trivial
theorem tw2091782674144758360:True:=trivial
theorem tw8565617093987355472:True:=trivial
theorem tw4778344463371107590:True:=trivial
theorem tw2080474880948442382:True:=trivial
theorem tw2650780806583375941:True:=trivial
theorem tw188626125616479350:True:=trivial
theorem tw18233577755532721865:True:=trivial
theorem tw2287157723240189559:True:=trivial
theorem tw6383840434852332072:True:=trivial
theorem tw14069177026102305788:True:=trivial
theorem tw820976530847232674:True:=trivial
theorem tw4615849353158816387:True:=trivial
theorem tw3065530702621055138:True:=trivial
theorem tw13096299592071494947:True:=trivial
theorem tw14344489909633809992:True:=trivial
theorem tw1879234243116828456:True:=trivial
theorem tw12403434491056325461:True:=trivial
theorem tw5479730363545130158:True:=trivial
theorem tw16093266910404568513:True:=trivial
theorem tw8841413419329419599:True:=trivial
theorem tw16790913145145660335:True:=trivial
theorem tw10402077134136758392:True:=trivial
theorem tw11570725845534565598:True:=trivial
theorem tw16943114592598348281:True:=trivial
theorem tw4278672106918766031:True:=trivial
theorem tw13329671784842686574:True:=trivial
theorem tw10115811049729424091:True:=trivial
theorem tw10568522989817314414:True:=trivial
theorem tw13617982198321808510:True:=trivial
theorem tw13572238707964981954:True:=trivial
theorem tw13810581169589050836:True:=trivial
theorem tw2426174332490392309:True:=trivial
theorem tw4886984952404944262:True:=trivial
theorem tw6380806243375660225:True:=trivial
theorem tw278026853417602267:True:=trivial
theorem tw8049630014991264416:True:=trivial
theorem tw14610808896218211686:True:=trivial
theorem tw13978961112931952421:True:=trivial
theorem tw14055600778172324058:True:=trivial
theorem tw18228653598184338690:True:=trivial
theorem tw18286346894225172740:True:=trivial
theorem tw580841920639458061:True:=trivial
theorem tw13191975640500384529:True:=trivial
theorem tw1841106621683327320:True:=trivial
theorem tw14179613010477154697:True:=trivial
theorem tw4903238997500665684:True:=trivial
theorem tw16197539943671718964:True:=trivial
theorem tw4377867530033306017:True:=trivial
theorem tw11833350273590888966:True:=trivial
theorem tw8067479634168586406:True:=trivial
theorem tw517514192257483013:True:=trivial
theorem tw5365250983907453470:True:=trivial
theorem tw11191720505978437962:True:=trivial
theorem tw9761438801727879238:True:=trivial
theorem tw3172589493089809223:True:=trivial
theorem tw836891557350407872:True:=trivial
theorem tw12450711145270037733:True:=trivial
theorem tw3720576935013775766:True:=trivial
theorem tw1013052433231865249:True:=trivial
theorem tw18432514816765468755:True:=trivial
theorem tw7382874582950538915:True:=trivial
theorem tw9769726743464739080:True:=trivial
theorem tw14353147113277235047:True:=trivial
theorem tw15113422799914178595:True:=trivial
theorem tw8494496715566520336:True:=trivial
theorem tw8659549733001947884:True:=trivial
theorem tw18056737714556602901:True:=trivial
theorem tw16336967920696837597:True:=trivial
theorem tw9108522972093726958:True:=trivial
theorem tw12566736125057430357:True:=trivial
theorem tw4047974732819276625:True:=trivial
theorem tw6200648764560434207:True:=trivial
theorem tw13836153439734999973:True:=trivial
theorem tw8748170333878566945:True:=trivial
theorem tw1790564125015350944:True:=trivial
theorem tw11262761396997742445:True:=trivial
theorem tw7922459695062027147:True:=trivial
theorem tw8007000484533500277:True:=trivial
theorem tw2744045690258530781:True:=trivial
theorem tw16384889085448134024:True:=trivial
theorem tw9004545597992952890:True:=trivial
theorem tw12005979970835153112:True:=trivial
theorem tw6581918689565936804:True:=trivial
theorem tw18322110245445849754:True:=trivial
theorem tw12136460349174757578:True:=trivial
theorem tw5752157635375401478:True:=trivial
theorem tw11648162569640580487:True:=trivial
theorem tw13095010321267069110:True:=trivial
theorem tw13803190156226748193:True:=trivial
theorem tw2139951335869211879:True:=trivial
theorem tw8849391111236514195:True:=trivial
theorem tw9818299937010451219:True:=trivial
theorem tw1688712170127450574:True:=trivial
theorem tw4845144632262989852:True:=trivial
theorem tw16634129525532326809:True:=trivial
theorem tw5243637762999273409:True:=trivial
theorem tw2159105093245395182:True:=trivial
theorem tw5521928023124002938:True:=trivial
theorem tw15856702737595318192:True:=trivial
theorem tw1472213464190725727:True:=trivial
theorem tw17115188172936165162:True:=trivial
theorem tw16832515235790849573:True:=trivial
theorem tw1479224459606457659:True:=trivial
theorem tw10009159049953243055:True:=trivial
theorem tw957545989399095237:True:=trivial
theorem tw9745798792965875517:True:=trivial
theorem tw13900195193260789895:True:=trivial
theorem tw16925161261191037754:True:=trivial
theorem tw7057158210640853589:True:=trivial
theorem tw11634756532817290213:True:=trivial
theorem tw16788150329710441899:True:=trivial
theorem tw11621544140575770472:True:=trivial
theorem tw7656628868350856591:True:=trivial
theorem tw17191167214090654049:True:=trivial
theorem tw7512099490470627638:True:=trivial
theorem tw14179036475853964726:True:=trivial
theorem tw16461986658593164497:True:=trivial
theorem tw15603288425974997173:True:=trivial
theorem tw18314784294214667673:True:=trivial
theorem tw14557205099659838884:True:=trivial
theorem tw14408420738895659902:True:=trivial
theorem tw2740105946955722285:True:=trivial
theorem tw4683036122500201260:True:=trivial
theorem tw16754939737538056232:True:=trivial
theorem tw15550432771609682556:True:=trivial
theorem tw13111376423094125869:True:=trivial
theorem tw13288349872121108947:True:=trivial
theorem tw14502004645823515369:True:=trivial
theorem tw5940224215743417492:True:=trivial
theorem tw6377154306030558844:True:=trivial
theorem tw4669318953434386144:True:=trivial
theorem tw12603442478310180169:True:=trivial
theorem tw13528883047095614385:True:=trivial
theorem tw2004243909661644689:True:=trivial
theorem tw621244704383445142:True:=trivial
theorem tw11119743018108954224:True:=trivial
theorem tw18031905054811149212:True:=trivial
theorem tw15225640253343801596:True:=trivial
theorem tw2745980750875985675:True:=trivial
theorem tw17103950099059191458:True:=trivial
theorem tw6321872568199293930:True:=trivial
theorem tw3826576579725636605:True:=trivial
theorem tw9412924878223111880:True:=trivial
theorem tw2252297002745058255:True:=trivial
theorem tw7412219770333576352:True:=trivial
theorem tw17691255626547681317:True:=trivial
theorem tw374556745334974574:True:=trivial
theorem tw14865063487988997856:True:=trivial
theorem tw10897828306897028259:True:=trivial
theorem tw4486144337511214737:True:=trivial
theorem tw12789686811517323797:True:=trivial
theorem tw10165947564657576474:True:=trivial
theorem tw6077202639873779295:True:=trivial
theorem tw4376019584241413801:True:=trivial
theorem tw12923064744423929038:True:=trivial
theorem tw15221914786230245347:True:=trivial
theorem tw7004060053678389135:True:=trivial
theorem tw13168731319859935467:True:=trivial
theorem tw12300789322433735776:True:=trivial
theorem tw766054269489159509:True:=trivial
theorem tw300405320136420385:True:=trivial
theorem tw13079340606388971704:True:=trivial
theorem tw5207759991815175935:True:=trivial
theorem tw2563417247415658982:True:=trivial
theorem tw14330114992569453234:True:=trivial
theorem tw15759022809311879051:True:=trivial
theorem tw17818008116980134559:True:=trivial
theorem tw14591138510923190084:True:=trivial
theorem tw7238349725314271237:True:=trivial
theorem tw18116593861705430898:True:=trivial
theorem tw4261465400871879807:True:=trivial
theorem tw15086610210660491740:True:=trivial
theorem tw11318646745868760035:True:=trivial
theorem tw4885683644528688095:True:=trivial
theorem tw8666577470688112261:True:=trivial
theorem tw6212594720493670559:True:=trivial
theorem tw13970969200230508098:True:=trivial
theorem tw9516869101924204846:True:=trivial
theorem tw10956900363027122080:True:=trivial
theorem tw5378068506624838240:True:=trivial
theorem tw15016485584405638178:True:=trivial
theorem tw716220877158121287:True:=trivial
theorem tw15200125475338895127:True:=trivial
theorem tw1405946992738019492:True:=trivial
theorem tw12244015624901870462:True:=trivial
theorem tw4737752874250189993:True:=trivial
theorem tw14512914289598839585:True:=trivial
theorem tw3035774181332961393:True:=trivial
theorem tw17578619118429148018:True:=trivial
theorem tw3092873784244772818:True:=trivial
theorem tw13586001777504592666:True:=trivial
theorem tw3808237170359277646:True:=trivial
theorem tw7380746124563257456:True:=trivial
theorem tw11076754045119596825:True:=trivial
theorem tw17151165034271792557:True:=trivial
theorem tw17942921292573836402:True:=trivial
theorem tw1859414898303552059:True:=trivial
theorem tw15990356371191569845:True:=trivial
theorem tw3420503958795402794:True:=trivial
theorem tw14539067269525909539:True:=trivial
theorem tw6925915626215123719:True:=trivial
theorem tw7291207845207740240:True:=trivial
theorem tw11765353122112221980:True:=trivial
theorem tw16231286942660015984:True:=trivial
theorem tw13723837443675072903:True:=trivial
theorem tw13007771239280266869:True:=trivial
theorem tw1286897033961958329:True:=trivial
theorem tw7683646680387148291:True:=trivial
end PySem.W.Fast
open PySem PySem.W PyProof.Rows
set_option maxRecDepth 100000 in
set_option maxHeartbeats 0 in
theorem PySem.Challenge.cw_mixbench_k36_whole_parts_in_cuts_holds : PySem.Challenge.rw_mixbench_k36_whole_parts_in_cuts.Holds := by
  w_on; o_law; k_head; (case hw => w_witness2)
  k_fill
  refine L2.walk_ofB (l := PySem.Challenge.rw_mixbench_k36_whole_parts_in_cuts) (k := 9) (x := "_law_script") (CX := fun _ => L2.CX0) rfl rfl ⟨rfl, by decide, by decide⟩ (fun w h Y => PySem.W.kIn_of Y) ?F (fun _ _ _ _ _ z => z)
  case F =>
    intro w mg fa h KX G hmg
    refine' My.all_mk KX G hmg ?mc_Part ?mc_Gain ?mc_Delay ?mc_Echo ?mc_Back ?mc_Hall ?mc_Swell ?a_is_whole ?l_is_whole ?c_is_whole ?k_is_whole ?a_is_figures ?l_is_figures ?c_is_figures ?k_is_figures ?a_whole_of ?l_whole_of ?c_whole_of ?k_whole_of ?a_divisor ?l_divisor ?c_divisor ?k_divisor ?a_multiple ?l_multiple ?c_multiple ?k_multiple ?a_fraction ?l_fraction ?c_fraction ?k_fraction ?a_plus ?l_plus ?c_plus ?k_plus ?a_times ?l_times ?c_times ?k_times ?a_size_of ?l_size_of ?c_size_of ?k_size_of ?a_is_under ?l_is_under ?c_is_under ?k_is_under ?a_fraction_text ?l_fraction_text ?c_fraction_text ?k_fraction_text ?a_read_fraction ?l_read_fraction ?c_read_fraction ?k_read_fraction ?a_added_rows ?l_added_rows ?c_added_rows ?k_added_rows ?a_times_row ?l_times_row ?c_times_row ?k_times_row ?a_delayed ?l_delayed ?c_delayed ?k_delayed ?a_last_of ?l_last_of ?c_last_of ?k_last_of ?a_Part_grain ?l_Part_grain ?c_Part_grain ?k_Part_grain ?a_Part_fresh ?l_Part_fresh ?c_Part_fresh ?k_Part_fresh ?a_Gain_init ?l_Gain_init ?c_Gain_init ?k_Gain_init ?a_Gain_grain ?l_Gain_grain ?c_Gain_grain ?k_Gain_grain ?a_Gain_through ?l_Gain_through ?c_Gain_through ?k_Gain_through ?a_Delay_init ?l_Delay_init ?c_Delay_init ?k_Delay_init ?a_Delay_through ?l_Delay_through ?c_Delay_through ?k_Delay_through ?a_powers_of ?l_powers_of ?c_powers_of ?k_powers_of ?a_toward_nought ?l_toward_nought ?c_toward_nought ?k_toward_nought ?a_Echo_init ?l_Echo_init ?c_Echo_init ?k_Echo_init ?a_Echo_grain ?l_Echo_grain ?c_Echo_grain ?k_Echo_grain ?a_Echo_through ?l_Echo_through ?c_Echo_through ?k_Echo_through ?a_Echo_reach ?l_Echo_reach ?c_Echo_reach ?k_Echo_reach ?a_Back_init ?l_Back_init ?c_Back_init ?k_Back_init ?a_Back_grain ?l_Back_grain ?c_Back_grain ?k_Back_grain ?a_Back_through ?l_Back_through ?c_Back_through ?k_Back_through ?a_Hall_init ?l_Hall_init ?c_Hall_init ?k_Hall_init ?a_Hall_through ?l_Hall_through ?c_Hall_through ?k_Hall_through ?a_shared_bottom ?l_shared_bottom ?c_shared_bottom ?k_shared_bottom ?a_slopes_of ?l_slopes_of ?c_slopes_of ?k_slopes_of ?a_over ?l_over ?c_over ?k_over ?a_Swell_init ?l_Swell_init ?c_Swell_init ?k_Swell_init ?a_Swell_grain ?l_Swell_grain ?c_Swell_grain ?k_Swell_grain ?a_Swell_fresh ?l_Swell_fresh ?c_Swell_fresh ?k_Swell_fresh ?a_Swell_line_at ?l_Swell_line_at ?c_Swell_line_at ?k_Swell_line_at ?a_Swell_gain_at ?l_Swell_gain_at ?c_Swell_gain_at ?k_Swell_gain_at ?a_Swell_through ?l_Swell_through ?c_Swell_through ?k_Swell_through ?a_read_gain ?l_read_gain ?c_read_gain ?k_read_gain ?a_read_number ?l_read_number ?c_read_number ?k_read_number ?a_read_many ?l_read_many ?c_read_many ?k_read_many ?a_check_count ?l_check_count ?c_check_count ?k_check_count ?a_gain_of ?l_gain_of ?c_gain_of ?k_gain_of ?a_delay_of ?l_delay_of ?c_delay_of ?k_delay_of ?a_echo_of ?l_echo_of ?c_echo_of ?k_echo_of ?a_back_of ?l_back_of ?c_back_of ?k_back_of ?a_hall_of ?l_hall_of ?c_hall_of ?k_hall_of ?a_read_corner ?l_read_corner ?c_read_corner ?k_read_corner ?a_swell_of ?l_swell_of ?c_swell_of ?k_swell_of ?a_part_of ?l_part_of ?c_part_of ?k_part_of ?a_law_cell_at ?l_law_cell_at ?c_law_cell_at ?k_law_cell_at ?a_law_whole ?l_law_whole ?c_law_whole ?k_law_whole ?a_law_divisor ?l_law_divisor ?c_law_divisor ?k_law_divisor ?a_law_gain ?l_law_gain ?c_law_gain ?k_law_gain ?a_law_word ?l_law_word ?c_law_word ?k_law_word ?a_law_tops ?l_law_tops ?c_law_tops ?k_law_tops ?a_law_tone ?l_law_tone ?c_law_tone ?k_law_tone ?a_law ?l_law ?c_law ?k_law ?z_abs ?z_bool ?z_enumerate ?z_int ?z_isinstance ?z_len ?z_list ?z_max ?z_min ?z_range ?z_str ?z_tuple ?z_zip ?cl_Part_pg ?cl_Part_hd ?cl_Part_po ?cl_Part_sa ?me_Part_grain_fn ?me_Part_fresh_fn ?cl_Gain_pg ?cl_Gain_hd ?cl_Gain_po ?cl_Gain_sa ?na_Gain_gain ?me_Gain___init___fn ?mk_Gain_ma ?mk_Gain_kp ?me_Gain_grain_fn ?me_Gain_through_fn ?me_Gain_fresh_at ?me_Gain_fresh_fn ?cl_Delay_pg ?cl_Delay_hd ?cl_Delay_po ?cl_Delay_sa ?na_Delay_many ?me_Delay___init___fn ?mk_Delay_ma ?mk_Delay_kp ?me_Delay_through_fn ?me_Delay_grain_at ?me_Delay_grain_fn ?me_Delay_fresh_at ?me_Delay_fresh_fn ?cl_Echo_pg ?cl_Echo_hd ?cl_Echo_po ?cl_Echo_sa ?na_Echo_gain ?na_Echo_many ?na_Echo_turns ?na_Echo_factors ?na_Echo_factor_bottom ?me_Echo___init___fn ?mk_Echo_ma ?mk_Echo_kp ?me_Echo_grain_fn ?me_Echo_through_fn ?me_Echo_reach_fn ?me_Echo_fresh_at ?me_Echo_fresh_fn ?cl_Back_pg ?cl_Back_hd ?cl_Back_po ?cl_Back_sa ?na_Back_gain ?na_Back_many ?me_Back___init___fn ?mk_Back_ma ?mk_Back_kp ?me_Back_grain_fn ?me_Back_through_fn ?me_Back_fresh_at ?me_Back_fresh_fn ?cl_Hall_pg ?cl_Hall_hd ?cl_Hall_po ?cl_Hall_sa ?na_Hall_gain ?na_Hall_many ?me_Hall___init___fn ?mk_Hall_ma ?mk_Hall_kp ?me_Hall_through_fn ?me_Hall_grain_at ?me_Hall_grain_fn ?me_Hall_fresh_at ?me_Hall_fresh_fn ?cl_Swell_pg ?cl_Swell_hd ?cl_Swell_po ?cl_Swell_sa ?na_Swell_corners ?na_Swell_shared ?na_Swell_lines ?me_Swell___init___fn ?mk_Swell_ma ?mk_Swell_kp ?me_Swell_grain_fn ?me_Swell_fresh_fn ?me_Swell_line_at_fn ?me_Swell_gain_at_fn ?me_Swell_through_fn ?mk_FIGURES ?mk_MOST_FIGURES_wholes ?mk_MOST_FIGURES_ratios ?mk_MOST_GAIN ?mk_MOST_MANY ?mk_MOST_TURNS ?mk_MOST_AT ?mk_MOST_CORNERS ?md_READERS ?ld_READERS ?kd_READERS ?nd_READERS ?rd_READERS_gain ?rd_READERS_delay ?rd_READERS_echo ?rd_READERS_back ?rd_READERS_swell ?rd_READERS_hall
    (case mc_Part => k_is)
    (case mc_Gain => k_is)
    (case mc_Delay => k_is)
    (case mc_Echo => k_is)
    (case mc_Back => k_is)
    (case mc_Hall => k_is)
    (case mc_Swell => k_is)
    (case a_is_whole => k_is)
    (case l_is_whole => k_is)
    (case c_is_whole => k_is)
    (case k_is_whole => k_is)
    (case a_is_figures => k_is)
    (case l_is_figures => k_is)
    (case c_is_figures => k_is)
    (case k_is_figures => k_is)
    (case a_whole_of => k_is)
    (case l_whole_of => k_is)
    (case c_whole_of => k_is)
    (case k_whole_of => k_is)
    (case a_divisor => k_is)
    (case l_divisor => k_is)
    (case c_divisor => k_is)
    (case k_divisor => k_is)
    (case a_multiple => k_is)
    (case l_multiple => k_is)
    (case c_multiple => k_is)
    (case k_multiple => k_is)
    (case a_fraction => k_is)
    (case l_fraction => k_is)
    (case c_fraction => k_is)
    (case k_fraction => k_is)
    (case a_plus => k_is)
    (case l_plus => k_is)
    (case c_plus => k_is)
    (case k_plus => k_is)
    (case a_times => k_is)
    (case l_times => k_is)
    (case c_times => k_is)
    (case k_times => k_is)
    (case a_size_of => k_is)
    (case l_size_of => k_is)
    (case c_size_of => k_is)
    (case k_size_of => k_is)
    (case a_is_under => k_is)
    (case l_is_under => k_is)
    (case c_is_under => k_is)
    (case k_is_under => k_is)
    (case a_fraction_text => k_is)
    (case l_fraction_text => k_is)
    (case c_fraction_text => k_is)
    (case k_fraction_text => k_is)
    (case a_read_fraction => k_is)
    (case l_read_fraction => k_is)
    (case c_read_fraction => k_is)
    (case k_read_fraction => k_is)
    (case a_added_rows => k_is)
    (case l_added_rows => k_is)
    (case c_added_rows => k_is)
    (case k_added_rows => k_is)
    (case a_times_row => k_is)
    (case l_times_row => k_is)
    (case c_times_row => k_is)
    (case k_times_row => k_is)
    (case a_delayed => k_is)
    (case l_delayed => k_is)
    (case c_delayed => k_is)
    (case k_delayed => k_is)
    (case a_last_of => k_is)
    (case l_last_of => k_is)
    (case c_last_of => k_is)
    (case k_last_of => k_is)
    (case a_Part_grain => k_is)
    (case l_Part_grain => k_is)
    (case c_Part_grain => k_is)
    (case k_Part_grain => k_is)
    (case a_Part_fresh => k_is)
    (case l_Part_fresh => k_is)
    (case c_Part_fresh => k_is)
    (case k_Part_fresh => k_is)
    (case a_Gain_init => k_is)
    (case l_Gain_init => k_is)
    (case c_Gain_init => k_is)
    (case k_Gain_init => k_is)
    (case a_Gain_grain => k_is)
    (case l_Gain_grain => k_is)
    (case c_Gain_grain => k_is)
    (case k_Gain_grain => k_is)
    (case a_Gain_through => k_is)
    (case l_Gain_through => k_is)
    (case c_Gain_through => k_is)
    (case k_Gain_through => k_is)
    (case a_Delay_init => k_is)
    (case l_Delay_init => k_is)
    (case c_Delay_init => k_is)
    (case k_Delay_init => k_is)
    (case a_Delay_through => k_is)
    (case l_Delay_through => k_is)
    (case c_Delay_through => k_is)
    (case k_Delay_through => k_is)
    (case a_powers_of => k_is)
    (case l_powers_of => k_is)
    (case c_powers_of => k_is)
    (case k_powers_of => k_is)
    (case a_toward_nought => k_is)
    (case l_toward_nought => k_is)
    (case c_toward_nought => k_is)
    (case k_toward_nought => k_is)
    (case a_Echo_init => k_is)
    (case l_Echo_init => k_is)
    (case c_Echo_init => k_is)
    (case k_Echo_init => k_is)
    (case a_Echo_grain => k_is)
    (case l_Echo_grain => k_is)
    (case c_Echo_grain => k_is)
    (case k_Echo_grain => k_is)
    (case a_Echo_through => k_is)
    (case l_Echo_through => k_is)
    (case c_Echo_through => k_is)
    (case k_Echo_through => k_is)
    (case a_Echo_reach => k_is)
    (case l_Echo_reach => k_is)
    (case c_Echo_reach => k_is)
    (case k_Echo_reach => k_is)
    (case a_Back_init => k_is)
    (case l_Back_init => k_is)
    (case c_Back_init => k_is)
    (case k_Back_init => k_is)
    (case a_Back_grain => k_is)
    (case l_Back_grain => k_is)
    (case c_Back_grain => k_is)
    (case k_Back_grain => k_is)
    (case a_Back_through => k_is)
    (case l_Back_through => k_is)
    (case c_Back_through => k_is)
    (case k_Back_through => k_is)
    (case a_Hall_init => k_is)
    (case l_Hall_init => k_is)
    (case c_Hall_init => k_is)
    (case k_Hall_init => k_is)
    (case a_Hall_through => k_is)
    (case l_Hall_through => k_is)
    (case c_Hall_through => k_is)
    (case k_Hall_through => k_is)
    (case a_shared_bottom => k_is)
    (case l_shared_bottom => k_is)
    (case c_shared_bottom => k_is)
    (case k_shared_bottom => k_is)
    (case a_slopes_of => k_is)
    (case l_slopes_of => k_is)
    (case c_slopes_of => k_is)
    (case k_slopes_of => k_is)
    (case a_over => k_is)
    (case l_over => k_is)
    (case c_over => k_is)
    (case k_over => k_is)
    (case a_Swell_init => k_is)
    (case l_Swell_init => k_is)
    (case c_Swell_init => k_is)
    (case k_Swell_init => k_is)
    (case a_Swell_grain => k_is)
    (case l_Swell_grain => k_is)
    (case c_Swell_grain => k_is)
    (case k_Swell_grain => k_is)
    (case a_Swell_fresh => k_is)
    (case l_Swell_fresh => k_is)
    (case c_Swell_fresh => k_is)
    (case k_Swell_fresh => k_is)
    (case a_Swell_line_at => k_is)
    (case l_Swell_line_at => k_is)
    (case c_Swell_line_at => k_is)
    (case k_Swell_line_at => k_is)
    (case a_Swell_gain_at => k_is)
    (case l_Swell_gain_at => k_is)
    (case c_Swell_gain_at => k_is)
    (case k_Swell_gain_at => k_is)
    (case a_Swell_through => k_is)
    (case l_Swell_through => k_is)
    (case c_Swell_through => k_is)
    (case k_Swell_through => k_is)
    (case a_read_gain => k_is)
    (case l_read_gain => k_is)
    (case c_read_gain => k_is)
    (case k_read_gain => k_is)
    (case a_read_number => k_is)
    (case l_read_number => k_is)
    (case c_read_number => k_is)
    (case k_read_number => k_is)
    (case a_read_many => k_is)
    (case l_read_many => k_is)
    (case c_read_many => k_is)
    (case k_read_many => k_is)
    (case a_check_count => k_is)
    (case l_check_count => k_is)
    (case c_check_count => k_is)
    (case k_check_count => k_is)
    (case a_gain_of => k_is)
    (case l_gain_of => k_is)
    (case c_gain_of => k_is)
    (case k_gain_of => k_is)
    (case a_delay_of => k_is)
    (case l_delay_of => k_is)
    (case c_delay_of => k_is)
    (case k_delay_of => k_is)
    (case a_echo_of => k_is)
    (case l_echo_of => k_is)
    (case c_echo_of => k_is)
    (case k_echo_of => k_is)
    (case a_back_of => k_is)
    (case l_back_of => k_is)
    (case c_back_of => k_is)
    (case k_back_of => k_is)
    (case a_hall_of => k_is)
    (case l_hall_of => k_is)
    (case c_hall_of => k_is)
    (case k_hall_of => k_is)
    (case a_read_corner => k_is)
    (case l_read_corner => k_is)
    (case c_read_corner => k_is)
    (case k_read_corner => k_is)
    (case a_swell_of => k_is)
    (case l_swell_of => k_is)
    (case c_swell_of => k_is)
    (case k_swell_of => k_is)
    (case a_part_of => k_is)
    (case l_part_of => k_is)
    (case c_part_of => k_is)
    (case k_part_of => k_is)
    (case a_law_cell_at => k_is)
    (case l_law_cell_at => k_is)
    (case c_law_cell_at => k_is)
    (case k_law_cell_at => k_is)
    (case a_law_whole => k_is)
    (case l_law_whole => k_is)
    (case c_law_whole => k_is)
    (case k_law_whole => k_is)
    (case a_law_divisor => k_is)
    (case l_law_divisor => k_is)
    (case c_law_divisor => k_is)
    (case k_law_divisor => k_is)
    (case a_law_gain => k_is)
    (case l_law_gain => k_is)
    (case c_law_gain => k_is)
    (case k_law_gain => k_is)
    (case a_law_word => k_is)
    (case l_law_word => k_is)
    (case c_law_word => k_is)
    (case k_law_word => k_is)
    (case a_law_tops => k_is)
    (case l_law_tops => k_is)
    (case c_law_tops => k_is)
    (case k_law_tops => k_is)
    (case a_law_tone => k_is)
    (case l_law_tone => k_is)
    (case c_law_tone => k_is)
    (case k_law_tone => k_is)
    (case a_law => k_is)
    (case l_law => k_is)
    (case c_law => k_is)
    (case k_law => k_is)
    (case z_abs => k_is)
    (case z_bool => k_is)
    (case z_enumerate => k_is)
    (case z_int => k_is)
    (case z_isinstance => k_is)
    (case z_len => k_is)
    (case z_list => k_is)
    (case z_max => k_is)
    (case z_min => k_is)
    (case z_range => k_is)
    (case z_str => k_is)
    (case z_tuple => k_is)
    (case z_zip => k_is)
    (case cl_Part_pg => k_is)
    (case cl_Part_hd => k_is)
    (case cl_Part_po => k_is)
    (case cl_Part_sa => k_is)
    (case me_Part_grain_fn => k_is)
    (case me_Part_fresh_fn => k_is)
    (case cl_Gain_pg => k_is)
    (case cl_Gain_hd => k_is)
    (case cl_Gain_po => k_is)
    (case cl_Gain_sa => k_is)
    (case na_Gain_gain => k_is)
    (case me_Gain___init___fn => k_is)
    (case mk_Gain_ma => k_is)
    (case mk_Gain_kp => k_is)
    (case me_Gain_grain_fn => k_is)
    (case me_Gain_through_fn => k_is)
    (case me_Gain_fresh_at => k_is)
    (case me_Gain_fresh_fn => k_is)
    (case cl_Delay_pg => k_is)
    (case cl_Delay_hd => k_is)
    (case cl_Delay_po => k_is)
    (case cl_Delay_sa => k_is)
    (case na_Delay_many => k_is)
    (case me_Delay___init___fn => k_is)
    (case mk_Delay_ma => k_is)
    (case mk_Delay_kp => k_is)
    (case me_Delay_through_fn => k_is)
    (case me_Delay_grain_at => k_is)
    (case me_Delay_grain_fn => k_is)
    (case me_Delay_fresh_at => k_is)
    (case me_Delay_fresh_fn => k_is)
    (case cl_Echo_pg => k_is)
    (case cl_Echo_hd => k_is)
    (case cl_Echo_po => k_is)
    (case cl_Echo_sa => k_is)
    (case na_Echo_gain => k_is)
    (case na_Echo_many => k_is)
    (case na_Echo_turns => k_is)
    (case na_Echo_factors => k_is)
    (case na_Echo_factor_bottom => k_is)
    (case me_Echo___init___fn => k_is)
    (case mk_Echo_ma => k_is)
    (case mk_Echo_kp => k_is)
    (case me_Echo_grain_fn => k_is)
    (case me_Echo_through_fn => k_is)
    (case me_Echo_reach_fn => k_is)
    (case me_Echo_fresh_at => k_is)
    (case me_Echo_fresh_fn => k_is)
    (case cl_Back_pg => k_is)
    (case cl_Back_hd => k_is)
    (case cl_Back_po => k_is)
    (case cl_Back_sa => k_is)
    (case na_Back_gain => k_is)
    (case na_Back_many => k_is)
    (case me_Back___init___fn => k_is)
    (case mk_Back_ma => k_is)
    (case mk_Back_kp => k_is)
    (case me_Back_grain_fn => k_is)
    (case me_Back_through_fn => k_is)
    (case me_Back_fresh_at => k_is)
    (case me_Back_fresh_fn => k_is)
    (case cl_Hall_pg => k_is)
    (case cl_Hall_hd => k_is)
    (case cl_Hall_po => k_is)
    (case cl_Hall_sa => k_is)
    (case na_Hall_gain => k_is)
    (case na_Hall_many => k_is)
    (case me_Hall___init___fn => k_is)
    (case mk_Hall_ma => k_is)
    (case mk_Hall_kp => k_is)
    (case me_Hall_through_fn => k_is)
    (case me_Hall_grain_at => k_is)
    (case me_Hall_grain_fn => k_is)
    (case me_Hall_fresh_at => k_is)
    (case me_Hall_fresh_fn => k_is)
    (case cl_Swell_pg => k_is)
    (case cl_Swell_hd => k_is)
    (case cl_Swell_po => k_is)
    (case cl_Swell_sa => k_is)
    (case na_Swell_corners => k_is)
    (case na_Swell_shared => k_is)
    (case na_Swell_lines => k_is)
    (case me_Swell___init___fn => k_is)
    (case mk_Swell_ma => k_is)
    (case mk_Swell_kp => k_is)
    (case me_Swell_grain_fn => k_is)
    (case me_Swell_fresh_fn => k_is)
    (case me_Swell_line_at_fn => k_is)
    (case me_Swell_gain_at_fn => k_is)
    (case me_Swell_through_fn => k_is)
    (case mk_FIGURES => k_is)
    (case mk_MOST_FIGURES_wholes => k_is)
    (case mk_MOST_FIGURES_ratios => k_is)
    (case mk_MOST_GAIN => k_is)
    (case mk_MOST_MANY => k_is)
    (case mk_MOST_TURNS => k_is)
    (case mk_MOST_AT => k_is)
    (case mk_MOST_CORNERS => k_is)
    (case md_READERS => k_is)
    (case ld_READERS => k_is)
    (case kd_READERS => k_keys)
    (case nd_READERS => decide)
    (case rd_READERS_gain => k_is)
    (case rd_READERS_delay => k_is)
    (case rd_READERS_echo => k_is)
    (case rd_READERS_back => k_is)
    (case rd_READERS_swell => k_is)
    (case rd_READERS_hall => k_is)
