import PyProof.Rows.All
import Wide.All
import OpenK.AllK
import Wide.FinOn
import Lean
import PyProof.EqAt
import PyProof.EqKinds
import PyProof.TupleCall
import PySem.Challenge.RW_mixbench_k41_chain_by_its_parts
set_option Elab.async false
set_option linter.all false
set_option maxRecDepth 100000
namespace L2
open PySem PySem.Spec PyProof.Rows
noncomputable abbrev Key := Sum Int Str
noncomputable def m5h : Key -> Value -> Bool
 | .inl k, v => Value.isInt k v
 | .inr x, v => Value.isStrOf x v
noncomputable def keyH (w : World) : Key -> Int
 | .inl k => hashInt k
 | .inr x => hashStr w x
theorem a8v : ∀ {k : Key} {v : Value}, m5h k v = true -> (∃ i t, k = Sum.inl i /\ v = Value.int i t) \/ (∃ x t, k = Sum.inr x /\ v = Value.str x t)
 | .inl i, v, h => by
  obtain ⟨t, e⟩ := Value.isInt_shape (k := i) (v := v) h
  exact .inl ⟨i, t, rfl, e⟩
 | .inr x, v, h => by
  obtain ⟨t, e⟩ := Value.isStrOf_shape (x := x) (v := v) h
  exact .inr ⟨x, t, rfl, e⟩
theorem m5i (a b : Int) : decide ((Sum.inl a : Key) = Sum.inl b) = (a == b) := by
 by_cases e : a = b
 ·subst e; simp
 ·have h : ¬ (Sum.inl a : Key) = Sum.inl b := fun q => e (Sum.inl.inj q)
  rw [decide_eq_false h]
  exact (beq_eq_false_iff_ne.mpr e).symm
theorem m5j (a b : Str) : decide ((Sum.inr a : Key) = Sum.inr b) = decide (a = b) := by
 by_cases e : a = b
 ·subst e; simp
 ·have h : ¬ (Sum.inr a : Key) = Sum.inr b := fun q => e (Sum.inr.inj q)
  rw [decide_eq_false h, decide_eq_false e]
theorem m5k (a : Int) (b : Str) : decide ((Sum.inl a : Key) = Sum.inr b) = false := decide_eq_false (fun q => nomatch q)
theorem m5l (a : Str) (b : Int) : decide ((Sum.inr a : Key) = Sum.inl b) = false := decide_eq_false (fun q => nomatch q)
noncomputable def l1h (prog : Program) (w : World) : PySem.KeyKind prog w Key where
 is := m5h
 hash := keyH w
 inj := fun v a b ha hb => by
  rcases a8v ha with ⟨i, t, rfl, rfl⟩ | ⟨x, t, rfl, rfl⟩
  ·rcases a8v hb with ⟨j, u, rfl, e⟩ | ⟨y, u, rfl, e⟩
   ·injection e with e1 _; rw [e1]
   ·exact nomatch e
  ·rcases a8v hb with ⟨j, u, rfl, e⟩ | ⟨y, u, rfl, e⟩
   ·exact nomatch e
   ·injection e with e1 _; rw [e1]
 byValue := fun k v h => by
  rcases a8v h with ⟨i, t, rfl, rfl⟩ | ⟨x, t, rfl, rfl⟩ <;> rfl
 pyHash := fun hv h => by
  rcases a8v hv with ⟨i, t, rfl, rfl⟩ | ⟨x, t, rfl, rfl⟩
  ·exact wpAny_pyHash_int h
  ·exact wpAny_pyHash_str h
 eqBool := fun hu hv h => by
  rcases a8v hu with ⟨i, t, rfl, rfl⟩ | ⟨x, t, rfl, rfl⟩
  ·rcases a8v hv with ⟨j, u, rfl, rfl⟩ | ⟨y, u, rfl, rfl⟩
   ·rw [m5i] at h; exact wpAny_eqBool_int h
   ·rw [m5k] at h; exact SeqAt.EqAt.int_str i t y u _ _ _ _ h
  ·rcases a8v hv with ⟨j, u, rfl, rfl⟩ | ⟨y, u, rfl, rfl⟩
   ·rw [m5l] at h; exact SeqAt.EqAt.str_int x t j u _ _ _ _ h
   ·rw [m5j] at h; exact wpAny_eqBool_str h
 «strs» := fun k x t v h => by
  rcases a8v h with ⟨i, u, rfl, e⟩ | ⟨y, u, rfl, e⟩
  ·exact nomatch e
  ·injection e with e1 _
   subst e1
   cases v <;> rfl
end L2
namespace L2
open PySem PySem.Spec PyProof.Rows
inductive V where
 | non | bl (b : Bool) | int (i : Int) | str (x : Str) | byt (b : Array UInt8) | flt (b : UInt64) | ref (a : Addr) | ty (n : String)
 deriving DecidableEq
noncomputable def RelV : V -> Value -> Prop
 | .non, u => u = Value.none
 | .bl b, u => u = Value.bool b
 | .int i, u => ∃ t, u = Value.int i t
 | .str x, u => ∃ t, u = Value.str x t
 | .byt b, u => ∃ t, u = Value.bytes b t
 | .flt b, u => ∃ t, u = Value.float b t
 | .ref a, u => u = Value.ref a
 | .ty n, u => u = Value.type n
noncomputable abbrev Vals : List V -> List Value -> Prop := Paired RelV
theorem Vals.length {xs : List V} {us : List Value} (r : Vals xs us) : xs.length = us.length := Paired.length r
theorem Vals.get : ∀ {xs : List V} {us : List Value} {i : Nat} {x : V}, Vals xs us -> xs[i]? = some x -> ∃ u, us[i]? = some u /\ RelV x u
 | _, _, _, _, .nil, e => by simp at e
 | _, _, 0, _, .cons r _, e => by simp at e; subst e; exact ⟨_, rfl, r⟩
 | _, _, i + 1, x, .cons _ t, e => by
  obtain ⟨u, h1, h2⟩ := Vals.get (i := i) (x := x) t (by simpa using e)
  exact ⟨u, by simpa using h1, h2⟩
theorem Vals.set {x : V} {u : Value} (r : RelV x u) : ∀ {xs : List V} {us : List Value} (i : Nat), Vals xs us -> Vals (xs.set i x) (us.set i u)
 | _, _, _, .nil => .nil
 | _, _, 0, .cons _ t => .cons r t
 | _, _, i + 1, .cons q t => .cons q (Vals.set r i t)
theorem Vals.append : ∀ {xs ys : List V} {us ws : List Value}, Vals xs us -> Vals ys ws -> Vals (xs ++ ys) (us ++ ws)
 | _, _, _, _, .nil, s => s
 | _, _, _, _, .cons r t, s => .cons r (Vals.append t s)
theorem Vals.take : ∀ {xs : List V} {us : List Value} (n : Nat), Vals xs us -> Vals (xs.take n) (us.take n)
 | _, _, 0, _ => .nil
 | _, _, _ + 1, .nil => .nil
 | _, _, n + 1, .cons r t => .cons r (Vals.take n t)
theorem Vals.drop : ∀ {xs : List V} {us : List Value} (n : Nat), Vals xs us -> Vals (xs.drop n) (us.drop n)
 | _, _, 0, r => r
 | _, _, _ + 1, .nil => .nil
 | _, _, n + 1, .cons _ t => Vals.drop n t
noncomputable def l6h : Option V -> Option Value -> Prop
 | some v, some u => RelV v u
 | none, none => True
 | _, _ => False
noncomputable def KV {κ : Type} : List (κ × V) -> List (κ × Value) -> Prop := Paired fun (p : κ × V) (q : κ × Value) => p.1 = q.1 /\ RelV p.2 q.2
noncomputable def kV : Key -> V
 | .inl i => .int i
 | .inr x => .str x
inductive HO where
  | lst (xs : List V)
  | tup (xs : List V)
  | dK (kvs : List (Key × V)) | dT (kvs : List (List Key × V))
  | set (S : Int -> Bool) (n : Nat)
  | ins (C dx : Addr) (fs : List (Str × V))
  | own (x : Addr)
  | xd (fs : List (Str × V))
  | met (f x : Addr)
  | rng (lo hi : Int)
  | frz (o : Obj) (u : HO)
  | tbl (ps : Array Value)
  | ext (φ : Heap -> Prop)
noncomputable abbrev Hp := Addr -> Option HO
noncomputable def upd (H : Hp) (a : Addr) (o : HO) : Hp := fun b => if b = a then some o else H b
theorem a5l {H : Hp} {a : Addr} {o : HO} : upd H a o a = some o := by unfold upd; rw [if_pos rfl]
theorem a4v {H : Hp} {a b : Addr} {o : HO} (h : b ≠ a) : upd H a o b = H b := by unfold upd; rw [if_neg h]
theorem a6l {H : Hp} {a b : Addr} {o : HO} (h : H a = some o) (h' : H b = none) : a ≠ b := by
 intro e; subst e; rw [h] at h'; cases h'
section
variable (P : Program) (w : World)
noncomputable def c8w (H : Hp) (h : Heap) (a : Addr) : HO -> Prop
 | .lst xs => xs.length ≤ sizeLine ∧ ∃ (its : List Value) (n : Nat), Vals xs its ∧ h.get? a = some { cls := .type "list", data := .seq its.toArray n }
 | .tup xs => xs.length <= sizeLine /\ ∃ its : List Value, Vals xs its /\ IsTup h a its.toArray
 | .dK kvs => kvs.length <= sizeLine /\ (a == sysModules) = false /\ ∃ vs, KV kvs vs /\ h.DictOf (l1h P w) a vs
 | .dT kvs => kvs.length <= sizeLine /\ (a == sysModules) = false /\ ∃ xs : List (List Key × Addr × Value),
   Paired (fun (p : List Key × V) (q : List Key × Addr × Value) => p.1 = q.1 /\ H q.2.1 = some (.tup (p.1.map kV)) /\ RelV p.2 q.2.2) kvs xs /\
   ∃ o es ep, h.get? a = some o /\ o.ExactDict /\ o.data = .dict es ep /\ es.toList = xs.map (entryOfKey (tupleKind (l1h P w))) /\ (xs.map (·.1)).Nodup
 | .set S n => h.SetOf (intKind P w) a S n
 | .ins C dx fs => H dx = some (.own a) /\ fs.length <= 1000 /\ dx ≠ a /\ h.get? a = some (PySem.W.instObj C dx) /\
   ∃ mA, h.Ns1 dx mA /\ (∀ f, l6h (fs.lookup f) (mA f)) /\ PySem.Within mA (fs.map (·.1))
 | .own _ => ∃ o, h.get? a = some o
 | .xd fs => ∃ mA, h.Ns1 a mA /\ ∀ f, l6h (fs.lookup f) (mA f)
 | .rng lo hi => ∃ t u v, h.get? a = some { cls := .type "range", data := .fields #[.int lo t, .int hi u, .int 1 v] }
 | .frz o u => h.get? a = some o /\ c8w H h a u
 | .tbl ps => h.get? a = some { cls := .none, data := .fields ps }
 | .met f x => h.get? a = some (PySem.W.methodObj (.ref f) (.ref x))
 | .ext φ => φ h /\ (∃ o, h.get? a = some o) /\ ∀ h1 h2 : Heap, φ h1 -> (∀ o, h1.get? a = some o -> h2.get? a = some o) -> φ h2
def HOk (H : Hp) (h : Heap) : Prop := ∀ a o, H a = some o -> c8w P w H h a o
end
section
variable {P : Program} {w : World} {H H' : Hp} {h h' : Heap} {a : Addr} {o : HO}
theorem c8w.lt (x : c8w P w H h a o) : a < h.objs.size := by
 cases o with
 | lst xs => obtain ⟨_, _, _, _, e⟩ := x; exact Heap.lt_size e
 | tup xs => obtain ⟨_, _, _, p⟩ := x; exact p.lt
 | dK kvs => obtain ⟨_, _, _, _, o, _, _, e, _⟩ := x; exact Heap.lt_size e
 | dT kvs => obtain ⟨_, _, _, _, o, _, _, e, _⟩ := x; exact Heap.lt_size e
 | set S n => obtain ⟨o, _, _, _, e, _⟩ := x; exact Heap.lt_size e
 | ins C dx fs => obtain ⟨_, _, _, e, _⟩ := x; exact Heap.lt_size e
 | own y => obtain ⟨_, e⟩ := x; exact Heap.lt_size e
 | xd fs => obtain ⟨_, ⟨_, _, _, e, _⟩, _⟩ := x; exact Heap.lt_size e
 | rng lo hi => obtain ⟨_, _, _, e⟩ := x; exact Heap.lt_size e
 | frz ob u => obtain ⟨e, _⟩ := x; exact Heap.lt_size e
 | tbl ps => exact Heap.lt_size (show h.get? a = some _ from x)
 | met f y => exact Heap.lt_size (show h.get? a = some _ from x)
 | ext φ => obtain ⟨_, ⟨_, e⟩, _⟩ := x; exact Heap.lt_size e
theorem Paired.n3n {α β : Type} {F G : α -> β -> Prop} : ∀ {l₁ : List α} {l₂ : List β}, Paired F l₁ l₂ -> (∀ a b, F a b -> G a b) -> Paired G l₁ l₂
 | _, _, .nil, _ => .nil
 | _, _, .cons r t, f => .cons (f _ _ r) (Paired.n3n t f)
theorem c8w.stay (x : c8w P w H h a o) (k : ∀ b u, (b = a \/ H b = some (.own a)) -> h.get? b = some u -> h'.get? b = some u)
  (ho : ∀ b, H b = some (.own a) -> H' b = some (.own a)) (ht : ∀ b xs, H b = some (.tup xs) -> H' b = some (.tup xs)) : c8w P w H' h' a o := by
 induction o with
 | lst xs => obtain ⟨z, its, n, r, e⟩ := x; exact ⟨z, its, n, r, k _ _ (.inl rfl) e⟩
 | tup xs => obtain ⟨z, its, r, ob, e, c⟩ := x; exact ⟨z, its, r, ob, k _ _ (.inl rfl) e, c⟩
 | dK kvs => obtain ⟨z, y, vs, r, ob, es, ep, e, c⟩ := x; exact ⟨z, y, vs, r, ob, es, ep, k _ _ (.inl rfl) e, c⟩
 | dT kvs =>
  obtain ⟨z, y, xs, r, ob, es, ep, e, c⟩ := x
  exact ⟨z, y, xs, Paired.n3n r fun p q z => ⟨z.1, ht _ _ z.2.1, z.2.2⟩, ob, es, ep, k _ _ (.inl rfl) e, c⟩
 | set S n => obtain ⟨ob, es, ep, t, e, c⟩ := x; exact ⟨ob, es, ep, t, k _ _ (.inl rfl) e, c⟩
 | ins C dx fs =>
  obtain ⟨d, z, ne, e, mA, ⟨od, es, ep, e2, c⟩, r⟩ := x
  exact ⟨ho _ d, z, ne, k _ _ (.inl rfl) e, mA, ⟨od, es, ep, k _ _ (.inr d) e2, c⟩, r⟩
 | own y => obtain ⟨ob, e⟩ := x; exact ⟨ob, k _ _ (.inl rfl) e⟩
 | xd fs => obtain ⟨mA, ⟨od, es, ep, e, c⟩, r⟩ := x; exact ⟨mA, ⟨od, es, ep, k _ _ (.inl rfl) e, c⟩, r⟩
 | rng lo hi => obtain ⟨t, u, v, e⟩ := x; exact ⟨t, u, v, k _ _ (.inl rfl) e⟩
 | frz ob u ih => obtain ⟨e, q⟩ := x; exact ⟨k _ _ (.inl rfl) e, ih q⟩
 | tbl ps =>
  have e : h.get? a = some { cls := .none, data := .fields ps } := x
  show h'.get? a = some { cls := .none, data := .fields ps }
  exact k a _ (.inl rfl) e
 | met f y =>
  have e : h.get? a = some (PySem.W.methodObj (.ref f) (.ref y)) := x
  show h'.get? a = some (PySem.W.methodObj (.ref f) (.ref y))
  exact k a _ (.inl rfl) e
 | ext φ => obtain ⟨p, ⟨o, e⟩, st⟩ := x; exact ⟨st _ _ p fun o q => k _ _ (.inl rfl) q, ⟨o, k _ _ (.inl rfl) e⟩, st⟩
theorem HOk.lt (x : HOk P w H h) (e : H a = some o) : a < h.objs.size := (x a o e).lt
theorem HOk.fresh (x : HOk P w H h) (e : h.objs.size <= a) : H a = none := by
 cases q : H a with
 | none => rfl
 | some u => exact absurd (Nat.lt_of_lt_of_le (x.lt q) e) (Nat.lt_irrefl _)
theorem HOk.kept (x : HOk P w H h) (k : ∀ b u, h.get? b = some u -> h'.get? b = some u) : HOk P w H h' := fun a o e =>
 (x a o e).stay (fun b u _ q => k b u q) (fun _ q => q) fun _ _ q => q
theorem HOk.laid (x : HOk P w H h) (k : ∀ b u, h.get? b = some u -> h'.get? b = some u) (hp : h.objs.size <= a) (new : c8w P w (upd H a o) h' a o) : HOk P w (upd H a o) h' := fun b u e => by
 have hn := x.fresh hp
 by_cases hb : b = a
 ·subst hb; rw [a5l] at e; cases e; exact new
 ·rw [a4v hb] at e
  exact (x b u e).stay (fun c v _ q => k c v q) (fun c q => by rw [a4v (a6l q hn)]; exact q) fun c xs q => by rw [a4v (a6l q hn)]; exact q
end
def Rd (H : Hp) (a : Addr) (u : HO) : Prop := H a = some u \/ ∃ o, H a = some (.frz o u)
theorem Rd.ok {P : Program} {w : World} {H : Hp} {h : Heap} {a : Addr} {u : HO} (r : Rd H a u) (x : HOk P w H h) : c8w P w H h a u := by
 rcases r with r | ⟨o, r⟩
 ·exact x a u r
 ·obtain ⟨_, q⟩ := x a _ r
  exact q
noncomputable def Mut : Option HO -> Prop
 | some (.lst _) => True
 | some (.dK _) => True
 | some (.dT _) => True
 | some (.set _ _) => True
 | some (.ins _ _ _) => True
 | some (.ext _) => True
 | _ => False
section
variable {P : Program} {w : World} {H : Hp} {h h' : Heap} {x e : Addr} {o' : HO}
theorem HOk.write (ok : HOk P w H h) (mu : Mut (H x)) (he : e = x \/ H e = some (.own x)) (k : ∀ b u, b ≠ e -> h.get? b = some u -> h'.get? b = some u) (heo : ∃ u, h'.get? e = some u)
  (new : c8w P w (upd H x o') h' x o') : HOk P w (upd H x o') h' := fun b u q => by
 have n3o : ∀ c y, H c = some (.own y) -> c ≠ x := fun c y r z => by subst z; rw [r] at mu; exact mu
 have ntup : ∀ c xs, H c = some (.tup xs) -> c ≠ x := fun c xs r z => by subst z; rw [r] at mu; exact mu
 by_cases hb : b = x
 ·subst hb; rw [a5l] at q; cases q; exact new
 ·rw [a4v hb] at q
  by_cases hbe : b = e
  ·have q' : H b = some (.own x) := by
    rcases he with z | z
    ·exact absurd (hbe.trans z) hb
    ·rw [hbe]; exact z
   rw [q] at q'; cases q'
   obtain ⟨v, hv⟩ := heo
   exact ⟨v, by rw [hbe]; exact hv⟩
  ·refine (ok b u q).stay (fun c v hc r => k c v ?_ r) (fun c r => by rw [a4v (n3o c b r)]; exact r) fun c xs r => by rw [a4v (ntup c xs r)]; exact r
   rcases hc with rfl | hc
   ·exact hbe
   ·rintro rfl
    rcases he with z | z
    ·exact n3o c b hc z
    ·rw [hc] at z; cases z; exact hb rfl
end
structure Un (fs ex : List Addr) (H H' : Hp) (h h' : Heap) : Prop where
 keep : ∀ b o, h.get? b = some o -> H b = none -> b ∉ fs -> b ∉ ex -> h'.get? b = some o
 slot : ∀ b o, h.get? b = some o -> H b = none -> b ∈ fs -> b ∉ ex -> ∃ sl, h'.get? b = some { o with slots := sl }
 free : ∀ b o, h.get? b = some o -> H b = none -> b ∉ ex -> H' b = none
 there : ∀ b o, h.get? b = some o -> b ∉ ex -> ∃ o', h'.get? b = some o'
 tups : ∀ b xs, H b = some (.tup xs) -> H' b = some (.tup xs)
 l1d : ∀ b o u, H b = some (.frz o u) -> H' b = some (.frz o u)
 l1i : ∀ b ps, H b = some (.tbl ps) -> ∃ more, H' b = some (.tbl (ps ++ more))
section
variable {fs fs' ex ex' : List Addr} {H H1 H2 : Hp} {h h1 h2 h' : Heap} {a x e : Addr} {o : HO}
theorem Un.any (u : Un fs ex H H1 h h1) {b : Addr} {ob : Obj} (q : h.get? b = some ob) (n : H b = none) (hx : b ∉ ex) : ∃ sl, h1.get? b = some { ob with slots := sl } := by
 by_cases hb : b ∈ fs
 ·exact u.slot b ob q n hb hx
 ·exact ⟨ob.slots, u.keep b ob q n hb hx⟩
theorem Un.kept (k : ∀ b u, h.get? b = some u -> h'.get? b = some u) : Un fs ex H H h h' :=
 ⟨fun b ob q _ _ _ => k b ob q, fun b ob q _ _ _ => ⟨ob.slots, k b ob q⟩, fun _ _ _ n _ => n, fun b ob q _ => ⟨ob, k b ob q⟩, fun _ _ q => q, fun _ _ _ q => q, fun _ ps q => ⟨#[], by rw [q]; simp⟩⟩
theorem Un.refl : Un fs ex H H h h := Un.kept fun _ _ q => q
theorem Un.laid (k : ∀ b u, h.get? b = some u -> h'.get? b = some u) (hp : h.objs.size <= a) (hn : H a = none) : Un fs ex H (upd H a o) h h' where
 keep := fun b u q _ _ _ => k b u q
 slot := fun b u q _ _ _ => ⟨u.slots, k b u q⟩
 free := fun b u q n _ => by rw [a4v (Nat.ne_of_lt (Nat.lt_of_lt_of_le (Heap.lt_size q) hp))]; exact n
 there := fun b u q _ => ⟨u, k b u q⟩
 tups := fun b xs q => by rw [a4v (a6l q hn)]; exact q
 l1d := fun b u xs q => by rw [a4v (a6l q hn)]; exact q
 l1i := fun b ps q => ⟨#[], by rw [a4v (a6l q hn), q]; simp⟩
theorem Un.write (mu : Mut (H x)) (he : e = x \/ H e = some (.own x)) (k : ∀ b u, b ≠ e -> h.get? b = some u -> h'.get? b = some u) (heo : ∃ u, h'.get? e = some u) : Un fs ex H (upd H x o) h h' := by
 have hx : ∀ b, H b = none -> b ≠ x := fun b n z => by subst z; rw [n] at mu; exact mu
 have hb : ∀ b, H b = none -> b ≠ e := fun b n z => by
  subst z
  rcases he with r | r
  ·exact hx b n r
  ·rw [n] at r; cases r
 have hm : ∀ b u, H b = some u -> ¬ Mut (some u) -> b ≠ x := fun b u q nm z => by subst z; rw [q] at mu; exact nm mu
 refine ⟨fun b u q n _ _ => k b u (hb b n) q, fun b u q n _ _ => ⟨u.slots, k b u (hb b n) q⟩, fun b u q n _ => by rw [a4v (hx b n)]; exact n, fun b u q _ => ?_,
  fun b xs q => by rw [a4v (hm b _ q fun z => z)]; exact q, fun b u xs q => by rw [a4v (hm b _ q fun z => z)]; exact q, fun b ps q => ⟨#[], by rw [a4v (hm b _ q fun z => z), q]; simp⟩⟩
 by_cases hbe : b = e
 ·subst hbe; exact heo
 ·exact ⟨u, k b u hbe q⟩
end
noncomputable def trk (h : Heap) (H : Hp) : List Addr := (List.range h.objs.size).filter fun a => (H a).isSome
noncomputable def l6q (h : Heap) (H : Hp) : Heap := PySem.W.hideAll h (trk h H)
theorem l1j (h : Heap) (H : Hp) : (l6q h H).objs.size = h.objs.size := PySem.W.hideAll_size _ _
theorem l6r {h : Heap} {H : Hp} {b : Addr} {o : Obj} (e : h.get? b = some o) (n : H b = none) : (l6q h H).get? b = some o :=
 PySem.W.hideAll_get _ e fun hm => by
  have q : (H b).isSome = true := (List.mem_filter.mp hm).2
  rw [n] at q; simp at q
theorem m1a {h : Heap} {H : Hp} {b : Addr} {o : Obj} (e : (l6q h H).get? b = some o) : h.get? b = some o /\ H b = none := by
 have e' : h.get? b = some o := PySem.W.of_hideAll (trk h H) e
 refine ⟨e', ?_⟩
 cases q : H b with
 | none => rfl
 | some x =>
  have hm : b ∈ trk h H := List.mem_filter.mpr ⟨List.mem_range.mpr (Heap.lt_size e'), by simp [q]⟩
  have z : (l6q h H).get? b = none := PySem.W.hideAll_none (trk h H) hm
  rw [z] at e; cases e
noncomputable def m1b (g h : Heap) (L : Addr) : List (Addr × Obj) := (List.range h.objs.size).filterMap fun a => if a = L \/ (g.get? a).isSome = true then none else (h.get? a).map fun o => (a, o)
noncomputable def rest (g h : Heap) (L d : Addr) : List (Addr × Obj) := (m1b g h L).filter fun p => decide (p.1 ≠ d)
end L2
namespace L2
open PySem PySem.Spec PyProof.Rows
structure Mod (K : PySem.W.Frag) (mg : Str -> Option Value) (base : Heap) : Prop where
 kin : K.In base
 glob : base.Ns mainGlobals mg
 blt : ∃ mb, base.Ns builtinsNs mb ∧ ∀ x : Str, x ≠ "__name__" → mb x = bootBuiltins x
 nolimit : base.NoLimit
structure Cx where
 prog : Program
 w : World
 K : PySem.W.Frag
 mg : Str -> Option Value
 base : Heap
 A : Around
 N : List Str
 s₀ : Shared
 H₀ : Hp
 env : Env
 outer : List Env
 stack : List Env
 ex : List Addr
 fn : Str -> Bool
 calm : Bool
 pn : List (Addr × Obj)
 xe : Value -> Shared -> Prop
noncomputable def frs (l : List Env) : List Addr := l.filterMap (·.frame)
noncomputable abbrev Cx.fs (X : Cx) : List Addr := frs X.outer
def Vis (sc : Scope) (x : Str) : Prop := sc.names.lookup x = some .local \/ sc.names.lookup x = some .cell \/ sc.names.lookup x = some .free
def Loc (sc : Scope) (x : Str) : Prop := sc.names.lookup x = some .local \/ sc.names.lookup x = some .cell
def Look (env : Env) (h : Heap) (m : Str -> Option Value) (x : Str) (u : Value) : Prop :=
 (env.kindOf x = some .local /\ m x = some u) \/ ((env.kindOf x = some .cell \/ env.kindOf x = some .free) /\ ∃ c, env.cells.lookup x = some c /\ h.IsCell c (some u))
structure Cx.Ok (X : Cx) : Prop where
 mod : Mod X.K X.mg X.base
 kind : X.env.scope.kind = .function
 glob : X.env.globals = mainGlobals
 blt : X.env.builtins = builtinsNs
 above : X.s₀.heap.objs.size <= X.env.locals
 inj : ∀ x y c, X.env.cells.lookup x = some c -> X.env.cells.lookup y = some c -> x = y
 has : ∀ x, (X.env.kindOf x = some .cell \/ X.env.kindOf x = some .free) -> ∃ c, X.env.cells.lookup x = some c
 cab : ∀ x c, X.fn x = true -> X.env.cells.lookup x = some c -> X.s₀.heap.objs.size <= c
 hd : X.calm = true -> X.A.handled = none
 frames : X.A.frames = some X.stack
 stk : X.stack = X.outer \/ (X.stack = X.env :: X.outer /\ X.env.frame = some X.env.locals)
 exf : ∀ b ∈ X.ex, b ≠ X.env.locals /\ ∀ x c, X.env.cells.lookup x = some c -> c ≠ b
 bs : ∀ b o, X.base.get? b = some o -> X.s₀.heap.get? b = some o /\ X.H₀ b = none
 bsz : X.base.objs.size <= X.s₀.heap.objs.size
 m4y : ∀ b o, X.base.get? b = some o -> b ∉ X.ex
 n0c : ∀ b ∈ X.ex, b ∉ X.fs
 l1e : X.s₀.heap.FunFrames X.base X.outer
 frf : ∀ b ∈ X.fs, X.H₀ b = none
structure Inv (X : Cx) (pins : List (Addr × Obj)) (σ : List (Option V)) (H : Hp) (s : Shared) : Prop where
 ok : X.Ok
 os : s.os = X.s₀.os
 bare : AllBare s.gens
 base : Un X.fs X.ex X.H₀ H X.s₀.heap s.heap
 loc : ∃ m, s.heap.Ns X.env.locals m /\ ∀ (i : Nat) (x : Str) (v : V), X.N[i]? = some x -> σ[i]? = some (some v) -> Vis X.env.scope x -> ∃ u, RelV v u /\ Look X.env s.heap m x u
 cell : ∀ x c, X.env.cells.lookup x = some c -> ∃ v, s.heap.IsCell c v
 free : H X.env.locals = none
 g6m : ∀ x c, X.env.cells.lookup x = some c -> H c = none
 pin : ∀ p ∈ X.pn ++ pins, s.heap.get? p.1 = some p.2 /\ H p.1 = none /\ p.1 ≠ X.env.locals /\ p.1 ∉ X.fs /\ ∀ v, p.2.data ≠ .cell v
 hok : HOk X.prog X.w H s.heap
 len : σ.length = X.N.length
section
variable {X : Cx} {pins : List (Addr × Obj)} {σ : List (Option V)} {H H' : Hp} {s : Shared} {h' : Heap}
theorem Cx.Ok.nofr (ok : X.Ok) {b : Addr} {o : Obj} (e : X.base.get? b = some o) : b ∉ X.fs := fun hb => by
 have := (ok.l1e.mem hb).1
 rw [e] at this; cases this
theorem Inv.bs (I : Inv X pins σ H s) : ∀ b o, X.base.get? b = some o -> s.heap.get? b = some o /\ H b = none := fun b o e =>
 ⟨I.base.keep b o (I.ok.bs b o e).1 (I.ok.bs b o e).2 (I.ok.nofr e) (I.ok.m4y b o e), I.base.free b o (I.ok.bs b o e).1 (I.ok.bs b o e).2 (I.ok.m4y b o e)⟩
theorem Inv.bk (I : Inv X pins σ H s) : ∀ b o, X.base.get? b = some o -> s.heap.get? b = some o := fun b o e => (I.bs b o e).1
theorem Inv.mod (I : Inv X pins σ H s) : Mod X.K X.mg X.base := I.ok.mod
theorem Inv.kIn (I : Inv X pins σ H s) : X.K.In s.heap := I.ok.mod.kin.keeps I.bk
theorem Inv.lt (I : Inv X pins σ H s) : X.env.locals < s.heap.objs.size := let ⟨_, hn, _⟩ := I.loc; hn.lt
theorem Inv.sz (I : Inv X pins σ H s) : X.s₀.heap.objs.size <= s.heap.objs.size := Nat.le_trans I.ok.above (Nat.le_of_lt I.lt)
theorem Inv.nofs (I : Inv X pins σ H s) {a : Addr} (h : s.heap.objs.size <= a) : a ∉ X.fs := fun hb => by
 obtain ⟨_, o, ho, _⟩ := I.ok.l1e.mem hb
 exact absurd (Nat.lt_of_lt_of_le (Heap.lt_size ho) (Nat.le_trans I.sz h)) (Nat.lt_irrefl _)
theorem Inv.cne (I : Inv X pins σ H s) : ∀ x c, X.env.cells.lookup x = some c -> c ≠ X.env.locals := fun x c e z => by
 obtain ⟨v, o, ho, hd⟩ := I.cell x c e
 obtain ⟨m, ⟨o', es, ep, ho', hd', _⟩, _⟩ := I.loc
 rw [z, ho'] at ho; cases ho; rw [hd'] at hd; cases hd
theorem Inv.l1e (I : Inv X pins σ H s) : s.heap.FunFrames X.base X.outer := by
 have all : ∀ (l : List Env), (∀ b ∈ frs l, b ∈ X.fs) -> X.s₀.heap.FunFrames X.base l -> s.heap.FunFrames X.base l := by
  intro l
  induction l with
  | nil => intro _ _; trivial
  | cons env r ih =>
   intro hs hl
   obtain ⟨hk, ⟨L, o, hf, hn, ho, hd⟩, hr⟩ := hl
   have hL : L ∈ X.fs := hs L (by unfold frs; rw [List.filterMap_cons, hf]; exact List.mem_cons_self)
   obtain ⟨sl, e⟩ := I.base.slot L o ho (I.ok.frf L hL) hL fun z => I.ok.n0c L z hL
   exact ⟨hk, ⟨L, _, hf, hn, e, hd⟩, ih (fun b hb => hs b (by unfold frs; rw [List.filterMap_cons, hf]; exact List.mem_cons_of_mem _ hb)) hr⟩
 exact all X.outer (fun _ hb => hb) I.ok.l1e
theorem Inv.stack (I : Inv X pins σ H s) : s.heap.FunFrames X.base X.stack := by
 rcases I.ok.stk with e | ⟨e, hf⟩
 ·rw [e]; exact I.l1e
 ·rw [e]
  obtain ⟨m, hn, _⟩ := I.loc
  refine .cons (by rw [I.ok.kind]; decide) hf hn ?_ I.l1e
  exact Heap.get?_none_of_le (Nat.le_trans I.ok.bsz I.ok.above)
theorem Inv.i0e (I : Inv X pins σ H s) : ∀ b ∈ frs X.stack, b ∈ X.env.locals :: X.fs := fun b hb => by
 rcases I.ok.stk with e | ⟨e, hf⟩
 ·rw [e] at hb; exact List.mem_cons_of_mem _ hb
 ·rw [e] at hb
  unfold frs at hb
  rw [List.filterMap_cons, hf] at hb
  exact hb
theorem Inv.j6u (I : Inv X pins σ H s) : ∀ b ∈ frs X.stack, H b = none := fun b hb => by
 rcases List.mem_cons.mp (I.i0e b hb) with e | hb
 ·rw [e]; exact I.free
 ·obtain ⟨_, o, ho, _⟩ := I.ok.l1e.mem hb
  exact I.base.free b o ho (I.ok.frf b hb) fun z => I.ok.n0c b z hb
theorem Inv.step {g' : Array GenState} {t' : Nat} {d' : Drawn} {ch : List Addr} (I : Inv X pins σ H s)
  (hch : ∀ b ∈ ch, (b ∈ X.ex \/ X.s₀.heap.objs.size <= b) /\ b ≠ X.env.locals /\ (∀ x c, X.env.cells.lookup x = some c -> c ≠ b) /\ ∀ p ∈ X.pn ++ pins, p.1 ≠ b)
  (keep : ∀ b o, b ≠ X.env.locals -> b ∉ X.fs -> b ∉ ch -> s.heap.get? b = some o -> H b = none -> h'.get? b = some o)
  (slot : ∀ b o, b ≠ X.env.locals -> b ∈ X.fs -> b ∉ ch -> s.heap.get? b = some o -> H b = none -> ∃ sl, h'.get? b = some { o with slots := sl }) (free : ∀ b o, b ∉ ch -> s.heap.get? b = some o -> H b = none -> H' b = none)
  (there : ∀ b o, b ∉ ch -> s.heap.get? b = some o -> ∃ o', h'.get? b = some o')
  (tups : ∀ b xs, H b = some (.tup xs) -> H' b = some (.tup xs)) (l1d : ∀ b o u, H b = some (.frz o u) -> H' b = some (.frz o u)) (l1i : ∀ b ps, H b = some (.tbl ps) -> ∃ more, H' b = some (.tbl (ps ++ more)))
  (ns : ∀ m, s.heap.Ns X.env.locals m -> h'.Ns X.env.locals m) (hok : HOk X.prog X.w H' h') (hg : AllBare g') :
  Inv X pins σ H' { s with heap := h', gens := g', drawn := d', toks := t' } := by
 have neL : ∀ b o, X.s₀.heap.get? b = some o -> b ≠ X.env.locals := fun b o e => Nat.ne_of_lt (Nat.lt_of_lt_of_le (Heap.lt_size e) I.ok.above)
 have neC : ∀ b o, X.s₀.heap.get? b = some o -> b ∉ X.ex -> b ∉ ch := fun b o e hx hb => by
  rcases (hch b hb).1 with z | z
  ·exact hx z
  ·exact absurd (Nat.lt_of_lt_of_le (Heap.lt_size e) z) (Nat.lt_irrefl _)
 have cellK : ∀ x c, X.env.cells.lookup x = some c -> ∀ v, s.heap.IsCell c v -> h'.IsCell c v := fun x c e v ⟨o, ho, hd⟩ => by
  have nch : c ∉ ch := fun z => (hch c z).2.2.1 x c e rfl
  by_cases hc : c ∈ X.fs
  ·obtain ⟨sl, q⟩ := slot c o (I.cne x c e) hc nch ho (I.g6m x c e)
   exact ⟨_, q, hd⟩
  ·exact ⟨o, keep c o (I.cne x c e) hc nch ho (I.g6m x c e), hd⟩
 refine ⟨I.ok, I.os, hg, ⟨fun b o e n hb hx => ?_, fun b o e n hb hx => ?_, fun b o e n hx => ?_, fun b o e hx => ?_, fun b xs e => tups b xs (I.base.tups b xs e), fun b o xs e => l1d b o xs (I.base.l1d b o xs e), fun b ps e => ?_⟩, ?_, fun x c e => ?_, ?_, fun x c e => ?_, fun p hp => ?_, hok, I.len⟩
 ·exact keep b o (neL b o e) hb (neC b o e hx) (I.base.keep b o e n hb hx) (I.base.free b o e n hx)
 ·obtain ⟨sl, e1⟩ := I.base.slot b o e n hb hx
  obtain ⟨sl', e2⟩ := slot b _ (neL b o e) hb (neC b o e hx) e1 (I.base.free b o e n hx)
  exact ⟨sl', e2⟩
 ·obtain ⟨o', e1⟩ := I.base.there b o e hx
  exact free b o' (neC b o e hx) e1 (I.base.free b o e n hx)
 ·obtain ⟨o', e1⟩ := I.base.there b o e hx
  exact there b o' (neC b o e hx) e1
 ·obtain ⟨m1, e1⟩ := I.base.l1i b ps e
  obtain ⟨m2, e2⟩ := l1i b _ e1
  exact ⟨m1 ++ m2, by rw [e2, Array.append_assoc]⟩
 ·obtain ⟨m, hn, hl⟩ := I.loc
  refine ⟨m, ns m hn, fun i x v e1 e2 e3 => ?_⟩
  obtain ⟨u, r, l⟩ := hl i x v e1 e2 e3
  refine ⟨u, r, ?_⟩
  rcases l with l | ⟨k, c, e, z⟩
  ·exact .inl l
  ·exact .inr ⟨k, c, e, cellK x c e _ z⟩
 ·obtain ⟨v, z⟩ := I.cell x c e
  exact ⟨v, cellK x c e v z⟩
 ·obtain ⟨m, ⟨o, _, _, ho, _⟩, _⟩ := I.loc
  exact free _ o (fun z => (hch _ z).2.1 rfl) ho I.free
 ·obtain ⟨v, o, ho, hd⟩ := I.cell x c e
  exact free c o (fun z => (hch c z).2.2.1 x c e rfl) ho (I.g6m x c e)
 ·obtain ⟨e, n, ne, nf, d⟩ := I.pin p hp
  have nch : p.1 ∉ ch := fun z => (hch p.1 z).2.2.2 p hp rfl
  exact ⟨keep p.1 p.2 ne nf nch e n, free p.1 p.2 nch e n, ne, nf, d⟩
theorem Inv.un {t' : Nat} (I : Inv X pins σ H s) (u : Un X.fs [] H H' s.heap h') (hok : HOk X.prog X.w H' h') : Inv X pins σ H' { s with heap := h', toks := t' } := by
 obtain ⟨m, ⟨o, es, ep, ho, r⟩, _⟩ := id I.loc
 obtain ⟨sl, hL⟩ := u.any ho I.free (by simp)
 exact I.step (g' := s.gens) (d' := s.drawn) (ch := []) (fun _ z => nomatch z) (fun b o _ hb _ e n => u.keep b o e n hb (by simp)) (fun b o _ hb _ e n => u.slot b o e n hb (by simp)) (fun b o _ e n => u.free b o e n (by simp)) (fun b o _ e => u.there b o e (by simp)) u.tups u.l1d u.l1i (fun m' hm => by
  obtain ⟨o', es', ep', ho', r'⟩ := hm
  rw [ho] at ho'; cases ho'
  exact ⟨_, es', ep', hL, r'⟩) hok I.bare
theorem Inv.call {g' : Array GenState} {t' : Nat} {d' : Drawn} {ch : List Addr} (I : Inv X pins σ H s) (u : Un (frs X.stack) ch H H' s.heap h') (hok : HOk X.prog X.w H' h') (hg : AllBare g')
  (hch : ∀ b ∈ ch, (b ∈ X.ex \/ X.s₀.heap.objs.size <= b) /\ b ≠ X.env.locals /\ (∀ x c, X.env.cells.lookup x = some c -> c ≠ b) /\ ∀ p ∈ X.pn ++ pins, p.1 ≠ b) :
  Inv X pins σ H' { s with heap := h', gens := g', drawn := d', toks := t' } := by
 obtain ⟨m, ⟨o, es, ep, ho, r⟩, _⟩ := id I.loc
 obtain ⟨sl, hL⟩ := u.any ho I.free fun z => (hch _ z).2.1 rfl
 exact I.step (ch := ch) hch (fun b o hL hb hc e n => u.keep b o e n (fun z => (List.mem_cons.mp (I.i0e b z)).elim hL hb) hc) (fun b o _ _ hc e n => u.any e n hc) (fun b o hc e n => u.free b o e n hc) (fun b o hc e => u.there b o e hc) u.tups u.l1d u.l1i (fun m' hm => by
  obtain ⟨o', es', ep', ho', r'⟩ := hm
  rw [ho] at ho'; cases ho'
  exact ⟨_, es', ep', hL, r'⟩) hok hg
theorem Inv.turned {t' : Nat} {it : Addr} (I : Inv X pins σ H s) (k : ∀ b o, b ≠ it -> s.heap.get? b = some o -> h'.get? b = some o) (hn : H it = none) (hL : it ≠ X.env.locals)
  (h1 : it ∈ X.ex \/ X.s₀.heap.objs.size <= it) (h2 : ∀ x c, X.env.cells.lookup x = some c -> c ≠ it) (h3 : ∀ p ∈ X.pn ++ pins, p.1 ≠ it) : Inv X pins σ H { s with heap := h', toks := t' } := by
 have nit : ∀ b u, H b = some u -> b ≠ it := fun b u e z => by rw [z, hn] at e; cases e
 refine I.step (g' := s.gens) (d' := s.drawn) (ch := [it]) (fun b hb => ?_) (fun b o _ _ hc e _ => k b o (fun z => hc (by simp [z])) e) (fun b o _ _ hc e _ => ⟨o.slots, k b o (fun z => hc (by simp [z])) e⟩) (fun _ _ _ _ n => n)
  (fun b o hc e => ⟨o, k b o (fun z => hc (by simp [z])) e⟩) (fun _ _ e => e) (fun _ _ _ e => e) (fun b ps e => ⟨#[], by rw [e]; simp⟩) (fun m hm => ?_) (fun b u e => ?_) I.bare
 ·have e : b = it := by simpa using hb
  subst e
  exact ⟨h1, hL, h2, h3⟩
 ·obtain ⟨o, es, ep, ho, r⟩ := hm
  exact ⟨o, es, ep, k _ o (Ne.symm hL) ho, r⟩
 ·refine (I.hok b u e).stay (fun c v hc q => k c v ?_ q) (fun _ q => q) fun _ _ q => q
  rcases hc with z | z
  ·rw [z]; exact nit b u e
  ·exact nit c _ z
theorem Inv.tok (I : Inv X pins σ H s) (t : Nat) : Inv X pins σ H { s with toks := t } := I.un (h' := s.heap) (t' := t) Un.refl I.hok
theorem Inv.kept {t' : Nat} (I : Inv X pins σ H s) (k : ∀ b u, s.heap.get? b = some u -> h'.get? b = some u) : Inv X pins σ H { s with heap := h', toks := t' } := I.un (Un.kept k) (I.hok.kept k)
theorem Inv.laid {a : Addr} {o : HO} {t' : Nat} (I : Inv X pins σ H s) (k : ∀ b u, s.heap.get? b = some u -> h'.get? b = some u) (hp : s.heap.objs.size <= a) (new : c8w X.prog X.w (upd H a o) h' a o) :
  Inv X pins σ (upd H a o) { s with heap := h', toks := t' } := I.un (Un.laid k hp (I.hok.fresh hp)) (I.hok.laid k hp new)
theorem Inv.write {x e : Addr} {o : HO} {t' : Nat} (I : Inv X pins σ H s) (mu : Mut (H x)) (he : e = x \/ H e = some (.own x)) (k : ∀ b u, b ≠ e -> s.heap.get? b = some u -> h'.get? b = some u) (heo : ∃ u, h'.get? e = some u)
  (new : c8w X.prog X.w (upd H x o) h' x o) : Inv X pins σ (upd H x o) { s with heap := h', toks := t' } := I.un (Un.write mu he k heo) (I.hok.write mu he k heo new)
theorem Inv.l1k {pins' : List (Addr × Obj)} (I : Inv X pins σ H s) (h : ∀ p ∈ pins', s.heap.get? p.1 = some p.2 /\ H p.1 = none /\ p.1 ≠ X.env.locals /\ p.1 ∉ X.fs /\ ∀ v, p.2.data ≠ .cell v) : Inv X pins' σ H s :=
 ⟨I.ok, I.os, I.bare, I.base, I.loc, I.cell, I.free, I.g6m, fun p hp => (List.mem_append.mp hp).elim (fun z => I.pin p (List.mem_append_left _ z)) (h p), I.hok, I.len⟩
theorem k3w {N : List Str} (hN : N.Nodup) {i j : Nat} {x : Str} (a : N[i]? = some x) (b : N[j]? = some x) : i = j := by
 obtain ⟨h1, e1⟩ := List.getElem?_eq_some_iff.mp a
 obtain ⟨h2, e2⟩ := List.getElem?_eq_some_iff.mp b
 exact (List.getElem_inj hN).mp (e1.trans e2.symm)
theorem h0e {M : Model} {A : Around} {E : Value -> Shared -> Prop} {i : Nat} {x : Str} {v : V} {u : Value} {Q : Unit -> Shared -> Prop} (I : Inv X pins σ H s) (hN : X.N.Nodup) (hi : X.N[i]? = some x) (hx : Loc X.env.scope x) (r : RelV v u)
  (h : ∀ s', Inv X pins (σ.set i (some v)) H s' -> (∃ a, Heap.SameBut a s.heap s'.heap /\ (a = X.env.locals \/ X.env.cells.lookup x = some a)) -> Q () s') (hf : X.fn x = true \/ X.env.scope.names.lookup x = some .local := by first | exact .inl rfl | exact .inr rfl | assumption) : wpAny M A (storeName X.env x u) Q E s := by
 obtain ⟨m, hn, hl⟩ := id I.loc
 have hcls : (X.env.scope.kind == .class || (X.env.scope.kind == .module && X.env.locals != X.env.globals)) = false := by rw [I.ok.kind]; rfl
 have hiσ : i < σ.length := by rw [I.len]; exact (List.getElem?_eq_some_iff.mp hi).1
 have cne := I.cne
 have tracked : ∀ {a : Addr} {h' : Heap}, (∃ o, s.heap.get? a = some o /\ H a = none) -> Heap.SameBut a s.heap h' -> HOk X.prog X.w H h' := fun {a h'} ha hs b ob e => by
  obtain ⟨_, _, hfree⟩ := ha
  refine (I.hok b ob e).stay (fun c w' hc q => (hs.2 c ?_).trans q) (fun _ q => q) fun _ _ q => q
  rintro rfl
  rcases hc with rfl | hc
  ·rw [hfree] at e; cases e
  ·rw [hfree] at hc; cases hc
 rcases hx with hk | hk
 ·refine wpAny_storeName_local hk hn (fun h' hn' hs => ?_) hcls
  obtain ⟨oL, _, _, hoL, _⟩ := id hn
  refine h _ ⟨I.ok, I.os, I.bare, ⟨fun b o e n hb hx => ?_, fun b o e n hb hx => ?_, I.base.free, fun b o e hx => ?_, I.base.tups, I.base.l1d, I.base.l1i⟩, ⟨_, hn', fun j y v' e1 e2 e3 => ?_⟩, fun y c e => ?_, I.free, I.g6m, fun p hp => ?_, tracked ⟨oL, hoL, I.free⟩ hs, by simpa using I.len⟩ ⟨_, hs, .inl rfl⟩
  ·exact (hs.2 b (Nat.ne_of_lt (Nat.lt_of_lt_of_le (Heap.lt_size e) I.ok.above))).trans (I.base.keep b o e n hb hx)
  ·obtain ⟨sl, e1⟩ := I.base.slot b o e n hb hx
   exact ⟨sl, (hs.2 b (Nat.ne_of_lt (Nat.lt_of_lt_of_le (Heap.lt_size e) I.ok.above))).trans e1⟩
  ·obtain ⟨o', e1⟩ := I.base.there b o e hx
   exact ⟨o', (hs.2 b (Nat.ne_of_lt (Nat.lt_of_lt_of_le (Heap.lt_size e) I.ok.above))).trans e1⟩
  ·by_cases hj : j = i
   ·subst hj
    rw [hi] at e1; cases e1
    rw [List.getElem?_set_self hiσ] at e2
    cases e2
    exact ⟨u, r, .inl ⟨hk, by simp⟩⟩
   ·rw [List.getElem?_set_ne (Ne.symm hj)] at e2
    obtain ⟨u', r', q⟩ := hl j y v' e1 e2 e3
    refine ⟨u', r', ?_⟩
    rcases q with ⟨k, e⟩ | ⟨k, c, e, z⟩
    ·refine .inl ⟨k, ?_⟩
     have : y ≠ x := fun e => hj (k3w hN e1 (e ▸ hi))
     simp [this, e]
    ·exact .inr ⟨k, c, e, z.sameBut hs (cne y c e)⟩
  ·obtain ⟨w', z⟩ := I.cell y c e
   exact ⟨w', z.sameBut hs (cne y c e)⟩
  ·obtain ⟨e, n, ne, nf, d⟩ := I.pin p hp
   exact ⟨(hs.2 p.1 ne).trans e, n, ne, nf, d⟩
 ·have hfn : X.fn x = true := by
   rcases hf with z | z
   ·exact z
   ·rw [z] at hk; cases hk
  obtain ⟨c, hc⟩ := I.ok.has x (.inl hk)
  obtain ⟨w', z⟩ := I.cell x c hc
  refine wpAny_storeName_cell I.ok.kind hk hc z (fun h' hc' hs => ?_)
  obtain ⟨oc, hoc, hocd⟩ := id z
  refine h { s with heap := h' } ⟨I.ok, I.os, I.bare, ⟨fun b o e n hb hx => ?_, fun b o e n hb hx => ?_, I.base.free, fun b o e hx => ?_, I.base.tups, I.base.l1d, I.base.l1i⟩, ⟨m, hn.sameBut hs (Ne.symm (cne x c hc)), fun j y v' e1 e2 e3 => ?_⟩, fun y c' e => ?_, I.free, I.g6m, fun p hp => ?_, tracked ⟨oc, hoc, I.g6m x c hc⟩ hs, by simpa using I.len⟩ ⟨c, hs, .inr hc⟩
  ·exact (hs.2 b (Nat.ne_of_lt (Nat.lt_of_lt_of_le (Heap.lt_size e) (I.ok.cab x c hfn hc)))).trans (I.base.keep b o e n hb hx)
  ·obtain ⟨sl, e1⟩ := I.base.slot b o e n hb hx
   exact ⟨sl, (hs.2 b (Nat.ne_of_lt (Nat.lt_of_lt_of_le (Heap.lt_size e) (I.ok.cab x c hfn hc)))).trans e1⟩
  ·obtain ⟨o', e1⟩ := I.base.there b o e hx
   exact ⟨o', (hs.2 b (Nat.ne_of_lt (Nat.lt_of_lt_of_le (Heap.lt_size e) (I.ok.cab x c hfn hc)))).trans e1⟩
  ·by_cases hj : j = i
   ·subst hj
    rw [hi] at e1; cases e1
    rw [List.getElem?_set_self hiσ] at e2
    cases e2
    exact ⟨u, r, .inr ⟨.inl hk, c, hc, hc'⟩⟩
   ·rw [List.getElem?_set_ne (Ne.symm hj)] at e2
    obtain ⟨u', r', q⟩ := hl j y v' e1 e2 e3
    refine ⟨u', r', ?_⟩
    rcases q with q | ⟨k, c', e, z'⟩
    ·exact .inl q
    ·refine .inr ⟨k, c', e, z'.sameBut hs ?_⟩
     rintro rfl
     exact hj (k3w hN e1 (I.ok.inj _ _ _ e hc ▸ hi))
  ·by_cases hcc : c' = c
   ·subst hcc; exact ⟨_, hc'⟩
   ·obtain ⟨w2, z2⟩ := I.cell y c' e
    exact ⟨w2, z2.sameBut hs hcc⟩
  ·obtain ⟨e, n, ne, nf, d⟩ := I.pin p hp
   refine ⟨(hs.2 p.1 ?_).trans e, n, ne, nf, d⟩
   intro q
   rw [q, hoc] at e
   have q' : oc = p.2 := Option.some.inj e
   exact d w' (by rw [<- q']; exact hocd)
theorem i1u {M : Model} {A : Around} {E : Value -> Shared -> Prop} {i : Nat} {x : Str} {v : V} {u : Value} {Q : Unit -> Shared -> Prop} (I : Inv X pins σ H s) (hN : X.N.Nodup) (hi : X.N[i]? = some x) (hx : Loc X.env.scope x) (r : RelV v u)
  (h : ∀ s', Inv X pins (σ.set i (some v)) H s' -> Q () s') (hf : X.fn x = true \/ X.env.scope.names.lookup x = some .local := by first | exact .inl rfl | exact .inr rfl | assumption) : wpAny M A (storeName X.env x u) Q E s :=
 h0e I hN hi hx r (fun s' I' _ => h s' I') hf
theorem Inv.call' {s' : Shared} {ch : List Addr} (I : Inv X pins σ H s) (ho : s'.os = s.os) (u : Un (frs X.stack) ch H H' s.heap s'.heap) (hok : HOk X.prog X.w H' s'.heap) (hg : AllBare s'.gens)
  (hch : ∀ b ∈ ch, (b ∈ X.ex \/ X.s₀.heap.objs.size <= b) /\ b ≠ X.env.locals /\ (∀ x c, X.env.cells.lookup x = some c -> c ≠ b) /\ ∀ p ∈ X.pn ++ pins, p.1 ≠ b) : Inv X pins σ H' s' := by
 obtain ⟨h', g', d', t', o'⟩ := s'
 have e : o' = s.os := ho
 subst e
 exact I.call (g' := g') (t' := t') (d' := d') u hok hg hch
end
noncomputable abbrev XK := Value -> Option Addr -> Hp -> Prop
noncomputable abbrev St := List (Option V)
noncomputable abbrev VK := V -> Hp -> Prop
noncomputable abbrev TE := St -> Hp -> VK -> Prop
noncomputable abbrev TT := St -> Hp -> (Bool -> Hp -> Prop) -> Prop
noncomputable abbrev TA := St -> Hp -> (List V -> Hp -> Prop) -> Prop
structure Ends where
 nx : St -> Hp -> Prop
 rt : VK
 bk : St -> Hp -> Prop := fun _ _ => False
 ct : St -> Hp -> Prop := fun _ _ => False
noncomputable abbrev TS := Ends -> St -> Hp -> Prop
def EP (X : Cx) (pins : List (Addr × Obj)) (σ : St) (Q : VK) (u : Value) (s' : Shared) : Prop := ∃ v H', Inv X pins σ H' s' /\ RelV v u /\ Q v H'
def TP (X : Cx) (pins : List (Addr × Obj)) (σ : St) (Q : Bool -> Hp -> Prop) (b : Bool) (s' : Shared) : Prop := ∃ H', Inv X pins σ H' s' /\ Q b H'
def AP (X : Cx) (pins : List (Addr × Obj)) (σ : St) (Q : List V -> Hp -> Prop) (us : List Value) (s' : Shared) : Prop := ∃ vs H', Inv X pins σ H' s' /\ Vals vs us /\ Q vs H'
def SP (X : Cx) (pins : List (Addr × Obj)) (D : Ends) (f : Flow) (s' : Shared) : Prop :=
 match f with
 | .next => ∃ σ' H', Inv X pins σ' H' s' /\ D.nx σ' H'
 | .brk => ∃ σ' H', Inv X pins σ' H' s' /\ D.bk σ' H'
 | .cont => ∃ σ' H', Inv X pins σ' H' s' /\ D.ct σ' H'
 | .ret u => ∃ v σ' H', Inv X pins σ' H' s' /\ RelV v u /\ D.rt v H'
def PE (X : Cx) (e : Expr) (t : TE) : Prop :=
 ∀ (pins : List (Addr × Obj)) (s : Shared) (σ : St) (H : Hp) (Q : VK), Inv X pins σ H s -> t σ H Q -> wpAny (model X.prog X.w) X.A (eval e X.env) (EP X pins σ Q) X.xe s
def PT (X : Cx) (e : Expr) (t : TT) : Prop :=
 ∀ (pins : List (Addr × Obj)) (s : Shared) (σ : St) (H : Hp) (Q : Bool -> Hp -> Prop), Inv X pins σ H s -> t σ H Q -> wpAny (model X.prog X.w) X.A (isTrue e X.env (eval e X.env)) (TP X pins σ Q) X.xe s
def PW (X : Cx) (e : Expr) (t : TT) : Prop :=
 ∀ (whole : Sem Value) (pins : List (Addr × Obj)) (s : Shared) (σ : St) (H : Hp) (Q : Bool -> Hp -> Prop), Inv X pins σ H s -> t σ H Q -> wpAny (model X.prog X.w) X.A (isTrue e X.env whole) (TP X pins σ Q) X.xe s
theorem PW.pt {X : Cx} {e : Expr} {t : TT} (h : PW X e t) : PT X e t := h _
def PA (X : Cx) (es : List Expr) (t : TA) : Prop :=
 ∀ (pos : Pos) (pins : List (Addr × Obj)) (s : Shared) (σ : St) (H : Hp) (Q : List V -> Hp -> Prop), Inv X pins σ H s -> t σ H Q -> wpAny (model X.prog X.w) X.A (spliced (backTo pos (starEach es X.env))) (AP X pins σ Q) X.xe s
def PS (X : Cx) (st : Stmt) (t : TS) : Prop :=
 ∀ (pins : List (Addr × Obj)) (s : Shared) (σ : St) (H : Hp) (D : Ends), Inv X pins σ H s -> t D σ H -> wpAny (model X.prog X.w) X.A (exec st X.env) (SP X pins D) X.xe s
def PSs (X : Cx) (st : List Stmt) (t : TS) : Prop :=
 ∀ (pins : List (Addr × Obj)) (s : Shared) (σ : St) (H : Hp) (D : Ends), Inv X pins σ H s -> t D σ H -> wpAny (model X.prog X.w) X.A (execs st X.env) (SP X pins D) X.xe s
theorem thn {α : Type} {t : Sem α} {Q Q' : α -> Shared -> Prop} {M : Model} {A : Around} {E : Value -> Shared -> Prop} {s : Shared} (h : wpAny M A t Q E s) (hQ : ∀ a s, Q a s -> Q' a s) : wpAny M A t Q' E s := wpAny_mono h hQ fun _ _ x => x
end L2
namespace L2
open PySem PySem.Spec PyProof.Rows
section
variable {X : Cx}
def tVar (i : Nat) : TE := fun σ H Q => ∃ v, σ[i]? = some (some v) /\ Q v H
def tC (v : V) : TE := fun _ H Q => Q v H
theorem m5m {i : Nat} {x : Str} {pos : Pos} (hN : X.N[i]? = some x) (hv : Vis X.env.scope x) (hd : (x == ("__debug__" : Str)) = false := by decide) (hcd : (x == ("__classdict__" : Str)) = false := by decide) : PE X (.Name x pos) (tVar i) := by
 intro pins s σ H Q I h
 obtain ⟨v, e, h⟩ := h
 obtain ⟨m, hn, hl⟩ := I.loc
 obtain ⟨u, r, l⟩ := hl i x v hN e hv
 have fin : EP X pins σ Q u s := ⟨v, H, I, r, h⟩
 rcases l with ⟨hk, hm⟩ | ⟨hk, c, hc, hcell⟩
 ·exact wpAny_Name (wpAny_loadName_local I.ok.kind hk hn hm fin) hd
 ·rcases hk with hk | hk
  ·exact wpAny_Name (wpAny_loadName_cell I.ok.kind hk hc hcell fin) hd
  ·exact wpAny_Name (wpAny_loadName_free I.ok.kind hk hc hcell fin hcd) hd
theorem a0k {i j pos} : PE X (.Constant (.int i) j pos) (tC (.int i)) := fun _ _ _ H _ I h => wpAny_Constant_int ⟨.int i, H, I.tok _, ⟨_, rfl⟩, h⟩
theorem h0f {b j pos} : PE X (.Constant (.bool b) j pos) (tC (.bl b)) := fun _ _ _ H _ I h => Constant_bool ⟨.bl b, H, I, rfl, h⟩
theorem h0g {j pos} : PE X (.Constant .none j pos) (tC .non) := fun _ _ _ H _ I h => Constant_none ⟨.non, H, I, rfl, h⟩
theorem a3w {x j pos} : PE X (.Constant (.str x) j pos) (tC (.str x)) := fun _ _ _ H _ I h => Calls.Constant_str ⟨.str x, H, I.tok _, ⟨_, rfl⟩, h⟩
def Gl (X : Cx) (x : Str) : Prop := X.env.kindOf x = some .globalImplicit
theorem j6v {E : Value -> Shared -> Prop} {pins : List (Addr × Obj)} {s : Shared} {σ : St} {H : Hp} {x : Str} {u : Value} {pos : Pos} {Q : Value -> Shared -> Prop} (I : Inv X pins σ H s) (hg : Gl X x) (hm : X.mg x = some u) (h : Q u s)
  (hd : (x == ("__debug__" : Str)) = false := by decide) : wpAny (model X.prog X.w) X.A (eval (.Name x pos) X.env) Q E s :=
 Calls.Name_function_global I.ok.kind hg (Calls.loadGlobal_global (by rw [I.ok.glob]; exact I.mod.glob.keeps I.bk) hm h) hd
theorem h0h {E : Value -> Shared -> Prop} {pins : List (Addr × Obj)} {s : Shared} {σ : St} {H : Hp} {x : Str} {u : Value} {pos : Pos} {Q : Value -> Shared -> Prop} (I : Inv X pins σ H s) (hg : Gl X x) (hm : X.mg x = none) (hv : bootBuiltins x = some u) (h : Q u s)
  (hn : x ≠ "__name__" := by decide) (hd : (x == ("__debug__" : Str)) = false := by decide) : wpAny (model X.prog X.w) X.A (eval (.Name x pos) X.env) Q E s := by
 obtain ⟨mb, h1, h2⟩ := I.mod.blt
 exact Calls.Name_function_global I.ok.kind hg (Calls.loadGlobal_builtin (by rw [I.ok.glob]; exact I.mod.glob.keeps I.bk) hm (by rw [I.ok.blt]; exact h1.keeps I.bk) ((h2 x hn).trans hv) h) hd
theorem b0p {x : Str} {v : V} {u : Value} {pos : Pos} (hg : Gl X x) (hm : X.mg x = some u) (r : RelV v u) (hd : (x == ("__debug__" : Str)) = false := by decide) : PE X (.Name x pos) (tC v) :=
 fun _ _ _ H _ I h => j6v I hg hm ⟨v, H, I, r, h⟩ hd
theorem c8y {x : Str} {v : V} {u : Value} {pos : Pos} (hg : Gl X x) (hm : X.mg x = none) (hv : bootBuiltins x = some u) (r : RelV v u) (hn : x ≠ "__name__" := by decide) (hd : (x == ("__debug__" : Str)) = false := by decide) : PE X (.Name x pos) (tC v) :=
 fun _ _ _ H _ I h => h0h I hg hm hv ⟨v, H, I, r, h⟩ hn hd
variable {a b : Expr} {ta tb : TE} {pos : Pos}
def tB (t : TE) : TT := fun σ H Q => t σ H fun x H1 => ∃ c, x = .bl c /\ Q c H1
theorem m5n {e : Expr} {t : TE} (h : PE X e t) (he : ∀ whole, isTrue e X.env whole = (do let v <- whole; standAt e.pos; holding [v] (truthy v)) := by intro _; rfl) : PT X e (tB t) := by
 intro pins s σ H Q I hw
 refine isTrue_plain (thn (h pins s σ H _ I hw) fun v s1 ⟨x, H1, I1, r1, q1⟩ => ?_) (he _)
 obtain ⟨d, rfl, q⟩ := q1
 cases r1
 exact wpAny_truthy_bool ⟨H1, I1, q⟩
variable {tA tB' : TT} {rest : List Expr}
def tAnd (t u : TT) : TT := fun σ H Q => t σ H fun c H1 => if c = true then u σ H1 Q else Q false H1
def tOr (t u : TT) : TT := fun σ H Q => t σ H fun c H1 => if c = true then Q true H1 else u σ H1 Q
def tNot (t : TT) : TT := fun σ H Q => t σ H fun c H1 => Q (!c) H1
theorem pw_and1 (ha : PT X a tA) : PW X (.BoolOp .And [a] pos) tA := by
 intro wh pins s σ H Q I h
 refine isTrue_and (thn (ha pins s σ H Q I h) fun c s1 e => ?_)
 cases c with
 | true => exact isTrue_and_nil e
 | false => exact e
theorem pw_or1 (ha : PT X a tA) : PW X (.BoolOp .Or [a] pos) tA := by
 intro wh pins s σ H Q I h
 refine isTrue_or (thn (ha pins s σ H Q I h) fun c s1 e => ?_)
 cases c with
 | false => exact isTrue_or_nil e
 | true => exact e
theorem pw_and (ha : PT X a tA) (hb : PW X (.BoolOp .And (b :: rest) pos) tB') : PW X (.BoolOp .And (a :: b :: rest) pos) (tAnd tA tB') := by
 intro wh pins s σ H Q I h
 refine isTrue_and (thn (ha pins s σ H _ I h) fun c s1 ⟨H1, I1, q1⟩ => ?_)
 cases c with
 | true => exact hb wh pins s1 σ H1 Q I1 q1
 | false => exact ⟨H1, I1, q1⟩
theorem pw_or (ha : PT X a tA) (hb : PW X (.BoolOp .Or (b :: rest) pos) tB') : PW X (.BoolOp .Or (a :: b :: rest) pos) (tOr tA tB') := by
 intro wh pins s σ H Q I h
 refine isTrue_or (thn (ha pins s σ H _ I h) fun c s1 ⟨H1, I1, q1⟩ => ?_)
 cases c with
 | true => exact ⟨H1, I1, q1⟩
 | false => exact hb wh pins s1 σ H1 Q I1 q1
theorem c0i (ha : PT X a tA) : PT X (.UnaryOp .Not a pos) (tNot tA) := by
 intro pins s σ H Q I h
 exact isTrue_not (ha pins s σ H (fun c H1 => Q (!c) H1) I h)
def m5o (ta tb : TE) : TE := fun σ H Q => ta σ H fun x H1 => ∃ c, x = .bl c /\ if c = true then tb σ H1 Q else Q (.bl false) H1
def m5p (ta : TE) : TE := fun σ H Q => ta σ H fun x H1 => ∃ c, x = .bl c /\ Q (.bl (!c)) H1
theorem k3x {op} {t : TE} (h : PE X a t) : PE X (.BoolOp op [a] pos) t := fun pins s σ H Q I hw => BoolOp_one (h pins s σ H Q I hw)
theorem m5q (ha : PE X a ta) (hb : PE X (.BoolOp .And (b :: rest) pos) tb) : PE X (.BoolOp .And (a :: b :: rest) pos) (m5o ta tb) := by
 intro pins s σ H Q I h
 refine BoolOp_and (thn (ha pins s σ H _ I h) fun v s1 ⟨x, H1, I1, r1, q1⟩ => ?_)
 obtain ⟨c, rfl, q1⟩ := q1
 cases r1
 refine wpAny_truthy_bool ?_
 cases c with
 | true => exact hb pins s1 σ H1 Q I1 q1
 | false => exact ⟨.bl false, H1, I1, rfl, q1⟩
theorem m5r (ha : PE X a ta) : PE X (.UnaryOp .Not a pos) (m5p ta) := by
 intro pins s σ H Q I h
 refine UnaryOp_ (thn (ha pins s σ H _ I h) fun v s1 ⟨x, H1, I1, r1, q1⟩ => ?_)
 obtain ⟨c, rfl, q1⟩ := q1
 cases r1
 exact not_of (wpAny_truthy_bool ⟨.bl (!c), H1, I1, rfl, q1⟩)
def tIf (t : TT) (ta tb : TE) : TE := fun σ H Q => t σ H fun c H1 => if c = true then ta σ H1 Q else tb σ H1 Q
theorem g9w {c : Expr} (hc : PT X c tA) (ha : PE X a ta) (hb : PE X b tb) : PE X (.IfExp c a b pos) (tIf tA ta tb) := by
 intro pins s σ H Q I h
 refine wpAny_IfExp (thn (hc pins s σ H _ I h) fun d s1 ⟨H1, I1, q1⟩ => ?_)
 cases d with
 | true => exact ha pins s1 σ H1 Q I1 q1
 | false => exact hb pins s1 σ H1 Q I1 q1
end
end L2
namespace L2
open PySem PySem.Spec PyProof.Rows
def SqL (K : PySem.W.Frag) (H : Hp) (a : Addr) (xs : List V) : Prop :=
 Rd H a (.lst xs) \/
  ∃ (o : Obj) (its : Array Value) (n : Nat), K.lookup a = some o ∧ o.cls = .type "list" ∧ o.dict = none ∧ o.data = .seq its n ∧ its.size ≤ sizeLine ∧ Vals xs its.toList
def SqT (K : PySem.W.Frag) (H : Hp) (a : Addr) (xs : List V) : Prop :=
 Rd H a (.tup xs) \/
  ∃ (o : Obj) (its : Array Value) (n : Nat), K.lookup a = some o ∧ o.cls = .type "tuple" ∧ o.data = .seq its n ∧ its.size ≤ sizeLine ∧ Vals xs its.toList
noncomputable def absV : Value -> Option V
 | .none => some .non
 | .bool b => some (.bl b)
 | .int i _ => some (.int i)
 | .str x _ => some (.str x)
 | .bytes b _ => some (.byt b)
 | .float b _ => some (.flt b)
 | .ref a => some (.ref a)
 | .type n => some (.ty n)
 | _ => none
theorem RelV.abs {x : V} {u : Value} (r : RelV x u) : absV u = some x := by
 cases x with
 | non => cases r; rfl
 | bl _ => cases r; rfl
 | int _ => obtain ⟨t, rfl⟩ := r; rfl
 | str _ => obtain ⟨t, rfl⟩ := r; rfl
 | byt _ => obtain ⟨t, rfl⟩ := r; rfl
 | flt _ => obtain ⟨t, rfl⟩ := r; rfl
 | ref _ => cases r; rfl
 | ty _ => cases r; rfl
theorem RelV.inj {x y : V} {u : Value} (r : RelV x u) (q : RelV y u) : x = y := Option.some.inj (r.abs.symm.trans q.abs)
theorem Vals.inj : ∀ {xs ys : List V} {us : List Value}, Vals xs us -> Vals ys us -> xs = ys
 | _, _, _, .nil, .nil => rfl
 | _, _, _, .cons r t, .cons r' t' => by rw [r.inj r', Vals.inj t t']
section
variable {X : Cx} {pins : List (Addr × Obj)} {σ : St} {H : Hp} {s : Shared} {a : Addr} {xs ys : List V}
theorem SqL.of {K : PySem.W.Frag} (h : H a = some (.lst xs)) : SqL K H a xs := .inl (.inl h)
theorem SqT.of {K : PySem.W.Frag} (h : H a = some (.tup xs)) : SqT K H a xs := .inl (.inl h)
theorem Inv.list (I : Inv X pins σ H s) (h : SqL X.K H a xs) : ∃ its : List Value, Vals xs its /\ PlainL s.heap a its.toArray /\ xs.length <= sizeLine := by
 rcases h with h | ⟨o, its, n, hk, hc, hd, hs, hz, r⟩
 ·obtain ⟨z, its, n, r, e⟩ := h.ok I.hok
  exact ⟨its, r, ⟨_, n, e, rfl, rfl, rfl⟩, z⟩
 ·refine ⟨its.toList, r, ⟨o, n, I.kIn a o hk, hc, hd, by simpa using hs⟩, ?_⟩
  have e := r.length
  simp only [Array.length_toList] at e
  omega
theorem Inv.tuple (I : Inv X pins σ H s) (h : SqT X.K H a xs) : ∃ its : List Value, Vals xs its /\ IsTup s.heap a its.toArray /\ xs.length <= sizeLine := by
 rcases h with h | ⟨o, its, n, hk, hc, hs, hz, r⟩
 ·obtain ⟨z, its, r, p⟩ := h.ok I.hok
  exact ⟨its, r, p, z⟩
 ·refine ⟨its.toList, r, ⟨o, I.kIn a o hk, hc, n, by simpa using hs⟩, ?_⟩
  have e := r.length
  simp only [Array.length_toList] at e
  omega
theorem Inv.i1v (I : Inv X pins σ H s) (h : SqL X.K H a xs) (h' : SqL X.K H a ys) : xs = ys := by
 obtain ⟨its, r, ⟨o, n, e, _, _, d⟩, _⟩ := I.list h
 obtain ⟨its', r', ⟨o', n', e', _, _, d'⟩, _⟩ := I.list h'
 rw [e] at e'; cases e'
 rw [d] at d'
 injection d' with d1 _
 have : its = its' := by simpa using congrArg Array.toList d1
 subst this
 exact r.inj r'
theorem Inv.i9c (I : Inv X pins σ H s) (h : SqT X.K H a xs) (h' : SqT X.K H a ys) : xs = ys := by
 obtain ⟨its, r, ⟨o, e, _, n, d⟩, _⟩ := I.tuple h
 obtain ⟨its', r', ⟨o', e', _, n', d'⟩, _⟩ := I.tuple h'
 rw [e] at e'; cases e'
 rw [d] at d'
 injection d' with d1 _
 have : its = its' := by simpa using congrArg Array.toList d1
 subst this
 exact r.inj r'
end
noncomputable abbrev Cx.wish (X : Cx) (E : Value -> Shared -> Prop) : Cx := { X with xe := E }
noncomputable abbrev Cx.nox (X : Cx) : Cx := X.wish fun _ _ => False
theorem Cx.Ok.wish {X : Cx} (ok : X.Ok) (E : Value -> Shared -> Prop) : (X.wish E).Ok :=
 ⟨ok.mod, ok.kind, ok.glob, ok.blt, ok.above, ok.inj, ok.has, ok.cab, ok.hd, ok.frames, ok.stk, ok.exf, ok.bs, ok.bsz, ok.m4y, ok.n0c, ok.l1e, ok.frf⟩
theorem Cx.Ok.d6v {X : Cx} {E : Value -> Shared -> Prop} (ok : (X.wish E).Ok) : X.Ok :=
 ⟨ok.mod, ok.kind, ok.glob, ok.blt, ok.above, ok.inj, ok.has, ok.cab, ok.hd, ok.frames, ok.stk, ok.exf, ok.bs, ok.bsz, ok.m4y, ok.n0c, ok.l1e, ok.frf⟩
section
variable {X : Cx} {pins : List (Addr × Obj)} {σ : St} {H : Hp} {s : Shared} {E : Value -> Shared -> Prop}
theorem Inv.wish (I : Inv X pins σ H s) (E : Value -> Shared -> Prop) : Inv (X.wish E) pins σ H s := ⟨I.ok.wish E, I.os, I.bare, I.base, I.loc, I.cell, I.free, I.g6m, I.pin, I.hok, I.len⟩
theorem Inv.d6v (I : Inv (X.wish E) pins σ H s) : Inv X pins σ H s := ⟨I.ok.d6v, I.os, I.bare, I.base, I.loc, I.cell, I.free, I.g6m, I.pin, I.hok, I.len⟩
theorem SP.d6v {D : Ends} {f : Flow} {s' : Shared} (h : SP (X.wish E) pins D f s') : SP X pins D f s' := by
 cases f with
 | next => obtain ⟨σ', H', I, q⟩ := h; exact ⟨σ', H', I.d6v, q⟩
 | brk => obtain ⟨σ', H', I, q⟩ := h; exact ⟨σ', H', I.d6v, q⟩
 | cont => obtain ⟨σ', H', I, q⟩ := h; exact ⟨σ', H', I.d6v, q⟩
 | ret u => obtain ⟨v, σ', H', I, r, q⟩ := h; exact ⟨v, σ', H', I.d6v, r, q⟩
theorem PSs.nox {st : List Stmt} {t : TS} (h : PSs X.nox st t) : PSs X st t := fun pins s σ H D I hw =>
 wpAny_mono (h pins s σ H D (I.wish _) hw) (fun _ _ q => q.d6v) fun _ _ z => False.elim z
end
section
variable {X : Cx} {st : Stmt} {rest : List Stmt} {t u : TS} {e : Expr} {te : TE} {pos : Pos}
def n0p : TS := fun D σ H => D.nx σ H
def tSeq (t u : TS) : TS := fun D σ H => t { D with nx := u D } σ H
theorem a2m : PSs X [] n0p := fun _ _ σ H _ I h => wpAny_execs_nil ⟨σ, H, I, h⟩
theorem a0i (h1 : PS X st t) (h2 : PSs X rest u) : PSs X (st :: rest) (tSeq t u) := by
 intro pins s σ H D I h
 refine wpAny_execs_cons (thn (h1 pins s σ H { D with nx := u D } I h) fun f s1 q => ?_)
 cases f with
 | next =>
  obtain ⟨σ', H', I', q⟩ := q
  exact h2 pins s1 σ' H' D I' q
 | ret v => exact q
 | brk => exact q
 | cont => exact q
theorem a0l (h1 : PS X st t) : PSs X [st] t := by
 intro pins s σ H D I h
 refine wpAny_execs_cons (thn (h1 pins s σ H D I h) fun f s1 q => ?_)
 cases f with
 | next => exact wpAny_execs_nil q
 | ret v => exact q
 | brk => exact q
 | cont => exact q
theorem Inv.quiet {pins : List (Addr × Obj)} {σ : St} {H : Hp} {s : Shared} (I : Inv X pins σ H s) : interactive X.env = false := by simp [interactive, I.ok.kind]
def n0q (te : TE) : TS := fun D σ H => te σ H fun _ H1 => D.nx σ H1
theorem b0q (he : PE X e te) (hs : swapsWith e none pos.line X.env = pure false := by rfl) : PS X (.Expr e pos) (n0q te) := by
 intro pins s σ H D I h
 exact wpAny_Expr_any (thn (he pins s σ H _ I h) fun v s1 ⟨x, H1, I1, r1, q1⟩ => ⟨σ, H1, I1, q1⟩) I.quiet hs
def tRet (te : TE) : TS := fun D σ H => te σ H D.rt
theorem a1k (he : PE X e te) : PS X (.Return (some e) pos) (tRet te) := by
 intro pins s σ H D I h
 exact wpAny_Return_some (thn (he pins s σ H _ I h) fun v s1 ⟨x, H1, I1, r1, q1⟩ => ⟨x, σ, H1, I1, r1, q1⟩)
def tRetN : TS := fun D _ H => D.rt .non H
def tIfS (c : TT) (t u : TS) : TS := fun D σ H => c σ H fun b H1 => if b = true then t D σ H1 else u D σ H1
theorem a6k {c : Expr} {a b : List Stmt} {tc : TT} (hc : PT X c tc) (ha : PSs X a t) (hb : PSs X b u) : PS X (.If c a b pos) (tIfS tc t u) := by
 intro pins s σ H D I h
 refine wpAny_If (thn (hc pins s σ H _ I h) fun d s1 ⟨H1, I1, q1⟩ => ?_)
 cases d with
 | true => exact ha pins s1 σ H1 D I1 q1
 | false => exact hb pins s1 σ H1 D I1 q1
def m5s : TS := fun _ _ _ => False
theorem a6h : PS X st m5s := fun _ _ _ _ _ _ h => h.elim
end
noncomputable abbrev TG := V -> St -> Hp -> (St -> Hp -> Prop) -> Prop
noncomputable abbrev TGs := List V -> St -> Hp -> (St -> Hp -> Prop) -> Prop
def PG (X : Cx) (target : Expr) (t : TG) : Prop :=
 ∀ (pins : List (Addr × Obj)) (s : Shared) (σ : St) (H : Hp) (v : V) (u : Value) (Q : St -> Hp -> Prop), Inv X pins σ H s -> RelV v u -> t v σ H Q ->
  wpAny (model X.prog X.w) X.A (assign target X.env u) (fun _ s' => ∃ σ' H', Inv X pins σ' H' s' /\ Q σ' H') X.xe s
def PGs (X : Cx) (ts : List Expr) (t : TGs) : Prop :=
 ∀ (pins : List (Addr × Obj)) (s : Shared) (σ : St) (H : Hp) (vs : List V) (us : List Value) (Q : St -> Hp -> Prop), Inv X pins σ H s -> Vals vs us -> t vs σ H Q ->
  wpAny (model X.prog X.w) X.A (assignInOrder ((assignEach ts X.env).map (·.2)) us) (fun _ s' => ∃ σ' H', Inv X pins σ' H' s' /\ Q σ' H') X.xe s
noncomputable abbrev TSet := V -> V -> V -> Hp -> (Hp -> Prop) -> Prop
noncomputable abbrev TIp := V -> V -> Hp -> VK -> Prop
def PIp (X : Cx) (op : Operator) (t : TIp) : Prop :=
 ∀ (pins : List (Addr × Obj)) (s : Shared) (σ : St) (H : Hp) (x y : V) (v u : Value) (Q : VK), Inv X pins σ H s -> RelV x v -> RelV y u -> t x y H Q ->
  wpAny (model X.prog X.w) X.A (inplaceOp op v u) (EP X pins σ Q) X.xe s
section
variable {X : Cx} {pos : Pos}
def l6s (i : Nat) : TG := fun v σ H Q => Q (σ.set i (some v)) H
theorem a5g {i : Nat} {x : Str} (hN : X.N.Nodup) (hi : X.N[i]? = some x) (hx : Loc X.env.scope x) (hf : X.fn x = true \/ X.env.scope.names.lookup x = some .local := by first | exact .inl rfl | exact .inr rfl | assumption) : PG X (.Name x pos) (l6s i) := by
 intro pins s σ H v u Q I r h
 exact wpAny_assign_Name (i1u I hN hi hx r (fun s' I' => ⟨_, H, I', h⟩) hf)
noncomputable def gNil : TGs := fun vs σ H Q => vs = [] /\ Q σ H
def n0r (t : TG) (u : TGs) : TGs := fun vs σ H Q => ∃ v r, vs = v :: r /\ t v σ H fun σ' H' => u r σ' H' Q
theorem l1l : PGs X [] gNil := by
 intro pins s σ H vs us Q I r h
 obtain ⟨e, h⟩ := h
 subst e
 cases r
 exact assignInOrder_nil ⟨σ, H, I, h⟩
theorem i1w {e : Expr} {es : List Expr} {t : TG} {u : TGs} (h1 : PG X e t) (h2 : PGs X es u)
  (hs : (assignEach (e :: es) X.env).map (·.2) = assign e X.env :: (assignEach es X.env).map (·.2) := by rfl) : PGs X (e :: es) (n0r t u) := by
 intro pins s σ H vs us Q I r h
 obtain ⟨v, vr, e1, h⟩ := h
 subst e1
 cases r with
 | cons r rr =>
  rw [hs]
  refine assignInOrder_cons (thn (h1 pins s σ H _ _ _ I r h) fun _ s1 ⟨σ1, H1, I1, q1⟩ => ?_)
  exact h2 pins s1 σ1 H1 _ _ Q I1 rr q1
def gTup (K : PySem.W.Frag) (n : Nat) (t : TGs) : TG := fun v σ H Q => ∃ a xs, v = .ref a /\ SqT K H a xs /\ xs.length = n /\ t xs σ H Q
theorem l9q {es : List Expr} {k : Nat} {t : TGs} {n : Nat} (hc : X.calm = true) (h : PGs X es t)
  (hn : (assignEach es X.env).length = n := by rfl) (hst : (assignEach es X.env).findIdx? (·.1) = none := by rfl) : PG X (.Tuple es k pos) (gTup X.K n t) := by
 intro pins s σ H v u Q I r hw
 obtain ⟨a, xs, e1, hq, hl, hw⟩ := hw
 subst e1
 cases r
 obtain ⟨its, rv, ht, hz⟩ := I.tuple hq
 refine assign_Tuple_tuple (I.ok.hd hc) ht (by simp [hn, <- hl, rv.length]) hst fun h' hx => ?_
 have I1 : Inv X pins σ H { s with heap := h' } := I.kept (t' := s.toks) fun b o e => hx b o (Nat.ne_of_lt (Heap.lt_size e)) e
 exact h pins _ σ H xs _ Q I1 (by simpa using rv) hw
def gSub (to ti : TE) (t : TSet) : TG := fun v σ H Q => to σ H fun o H1 => ti σ H1 fun i H2 => t o i v H2 fun H3 => Q σ H3
def n0d (te : TE) (g : TG) : TS := fun D σ H => te σ H fun x H1 => g x σ H1 D.nx
theorem m5t {tg e : Expr} {te : TE} {g : TG} (he : PE X e te) (hg : PG X tg g) (hs : swapsWithSole [tg] e pos.line X.env = pure false := by rfl) (hw : swappedStores [tg] e X.env = pure none := by rfl)
  (h1 : (assignEach [tg] X.env).map (·.2) = [assign tg X.env] := by rfl) : PS X (.Assign [tg] e pos) (n0d te g) := by
 intro pins s σ H D I h
 refine wpAny_Assign_stores (thn (he pins s σ H _ I h) fun v s1 ⟨x, H1, I1, r1, q1⟩ => ?_) hs hw
 rw [h1]
 exact thn (hg pins s1 σ H1 x v _ I1 r1 q1) fun _ s2 q => q
theorem a1j {i : Nat} {x : Str} {e : Expr} {te : TE} {pos' : Pos} (hN : X.N.Nodup) (hi : X.N[i]? = some x) (hx : Loc X.env.scope x) (he : PE X e te) (hs : swapsWith e (some (.Name x pos')) pos.line X.env = pure false := by rfl) (hf : X.fn x = true \/ X.env.scope.names.lookup x = some .local := by first | exact .inl rfl | exact .inr rfl | assumption) :
  PS X (.Assign [.Name x pos'] e pos) (n0d te (l6s i)) := by
 intro pins s σ H D I h
 refine wpAny_Assign_Name (thn (he pins s σ H _ I h) fun v s1 ⟨y, H1, I1, r1, q1⟩ => ?_) hs
 exact i1u I1 hN hi hx r1 (fun s2 I2 => ⟨_, H1, I2, q1⟩) hf
def tAug (i : Nat) (te : TE) (ti : TIp) : TS := fun D σ H => ∃ x, σ[i]? = some (some x) /\ te σ H fun y H1 => ti x y H1 fun z H2 => D.nx (σ.set i (some z)) H2
theorem m5u {i : Nat} {x : Str} {e : Expr} {te : TE} {op : Operator} {ti : TIp} {pos' : Pos} (hN : X.N.Nodup) (hi : X.N[i]? = some x) (hx : Loc X.env.scope x) (he : PE X e te) (ho : PIp X op ti) (hf : X.fn x = true \/ X.env.scope.names.lookup x = some .local := by first | exact .inl rfl | exact .inr rfl | assumption) :
  PS X (.AugAssign (.Name x pos') op e pos) (tAug i te ti) := by
 intro pins s σ H D I h
 obtain ⟨v, e1, h⟩ := h
 obtain ⟨m, hn, hl⟩ := I.loc
 have vis : Vis X.env.scope x := by rcases hx with k | k; exact .inl k; exact .inr (.inl k)
 obtain ⟨u, r, l⟩ := hl i x v hi e1 vis
 refine wpAny_AugAssign_Name ?_
 have go : wpAny (model X.prog X.w) X.A (eval e X.env) (fun w s₂ => wpAny (model X.prog X.w) X.A (inplaceOp op u w) (fun r s₃ => wpAny (model X.prog X.w) X.A (storeName X.env x r) (fun _ => SP X pins D .next) X.xe s₃) X.xe s₂) X.xe s := by
  refine thn (he pins s σ H _ I h) fun w s1 ⟨y, H1, I1, r1, q1⟩ => ?_
  refine thn (ho pins s1 σ H1 v y u w _ I1 r r1 q1) fun z s2 ⟨zv, H2, I2, r2, q2⟩ => ?_
  exact i1u I2 hN hi hx r2 (fun s3 I3 => ⟨_, H2, I3, q2⟩) hf
 rcases l with ⟨hk, hm⟩ | ⟨hk, c, hc, hcell⟩
 ·exact wpAny_loadName_local I.ok.kind hk hn hm go
 ·rcases hk with hk | hk
  ·exact wpAny_loadName_cell I.ok.kind hk hc hcell go
  ·rcases hx with k | k
   ·have : X.env.scope.names.lookup x = some .free := hk
    rw [k] at this; cases this
   ·have : X.env.scope.names.lookup x = some .free := hk
    rw [k] at this; cases this
end
section
variable {X : Cx} {pos : Pos}
end
structure It where
 go : Nat -> Hp -> Prop
 yld : Nat -> Hp -> V -> Hp -> Prop
 stop : Nat -> Hp -> Prop
def i1x (X : Cx) (pins : List (Addr × Obj)) (H : Hp) (b : Addr) : Prop :=
 H b = none /\ b ≠ X.env.locals /\ b ∉ X.fs /\ (b ∈ X.ex \/ X.s₀.heap.objs.size <= b) /\ (∀ x c, X.env.cells.lookup x = some c -> c ≠ b) /\ ∀ p ∈ X.pn ++ pins, p.1 ≠ b
theorem Inv.l6i {X : Cx} {pins : List (Addr × Obj)} {σ : St} {H H' : Hp} {s : Shared} {b : Addr} (I : Inv X pins σ H s) (hb : s.heap.objs.size <= b) (hn : H' b = none) : i1x X pins H' b := by
 refine ⟨hn, Nat.ne_of_gt (Nat.lt_of_lt_of_le I.lt hb), I.nofs hb, .inr (Nat.le_trans I.sz hb), fun x c e z => ?_, fun p hp z => ?_⟩
 ·obtain ⟨v, q⟩ := I.cell x c e
  exact absurd (Nat.lt_of_lt_of_le q.lt (by rw [z]; exact hb)) (Nat.lt_irrefl _)
 ·exact absurd (Nat.lt_of_lt_of_le (Heap.lt_size (I.pin p hp).1) (by rw [z]; exact hb)) (Nat.lt_irrefl _)
structure Turn (P : Program) (w : World) (K : PySem.W.Frag) (tg : Expr) (J : It) (fp : List Addr) (it : Addr) (tn : Nat -> Heap -> Prop) : Prop where
 mem : it ∈ fp
 obj : ∀ i h, tn i h -> ∀ b ∈ fp, ∃ o, h.get? b = some o /\ ∀ v, o.data ≠ .cell v
 keep : ∀ i h h', tn i h -> (∀ b ∈ fp, ∀ o, h.get? b = some o -> h'.get? b = some o) -> tn i h'
 item : ∀ (X : Cx), X.prog = P -> X.w = w -> X.K = K -> X.calm = true -> ∀ (i : Nat) (pins : List (Addr × Obj)) (s : Shared) (σ : St) (H : Hp) (E : Value -> Shared -> Prop), Inv X pins σ H s -> (∀ b ∈ fp, i1x X pins H b) -> tn i s.heap -> J.go i H ->
  wpAny (model P w) X.A (pyNext (.ref it)) (fun r s1 => ∃ u, r = some u /\
   wpAny (model P w) X.A (letOwnedTupleGo tg (.ref it) u) (fun _ s2 => ∃ x H', Inv X pins σ H' s2 /\ RelV x u /\ J.yld i H x H' /\ tn (i + 1) s2.heap /\ ∀ b ∈ fp, H' b = none) E s1) E s
 done : ∀ (X : Cx), X.prog = P -> X.w = w -> X.K = K -> X.calm = true -> ∀ (i : Nat) (pins : List (Addr × Obj)) (s : Shared) (σ : St) (H : Hp) (E : Value -> Shared -> Prop), Inv X pins σ H s -> (∀ b ∈ fp, i1x X pins H b) -> tn i s.heap -> J.stop i H ->
  wpAny (model P w) X.A (pyNext (.ref it)) (fun r s1 => r = none /\ Inv X pins σ H s1) E s
 self : ∀ (A : Around) (i : Nat) (s : Shared) (Q : Value -> Shared -> Prop) (E : Value -> Shared -> Prop), tn i s.heap -> Q (.ref it) s -> wpAny (model P w) A (pyIter (.ref it)) Q E s
noncomputable abbrev TI := St -> Hp -> (It -> Hp -> Prop) -> Prop
def PIE (X : Cx) (pins : List (Addr × Obj)) (σ : St) (tg : Expr) (R : It -> Hp -> Prop) (itv : Value) (s2 : Shared) : Prop :=
 ∃ (it : Addr) (fp : List Addr) (tn : Nat -> Heap -> Prop) (J : It) (H' : Hp), itv = .ref it /\ Inv X pins σ H' s2 /\ Turn X.prog X.w X.K tg J fp it tn /\ tn 0 s2.heap /\ (∀ b ∈ fp, i1x X pins H' b) /\ R J H'
def PI (X : Cx) (tg iter : Expr) (wi : TI) : Prop :=
 ∀ (pins : List (Addr × Obj)) (s : Shared) (σ : St) (H : Hp) (R : It -> Hp -> Prop), Inv X pins σ H s -> wi σ H R ->
  wpAny (model X.prog X.w) X.A (eval iter X.env) (fun v s1 => wpAny (model X.prog X.w) X.A (pyIter v) (PIE X pins σ tg R) X.xe s1) X.xe s
theorem l6t {M : Model} {A : Around} {E : Value -> Shared -> Prop} {s : Shared} {tg : Expr} {it : Addr} {u : Value} {o : Obj} {n : String} {vs : Array Value} {Q : Unit -> Shared -> Prop} (ho : s.heap.get? it = some o) (hc : o.cls = .type n) (hd : o.data = .fields vs)
  (hn : ["enumerate", "zip", "dict_itemiterator", "dict_reverseitemiterator", "odict_iterator", "itertools.zip_longest", "itertools.pairwise"].contains n = false) (hQ : Q () s) : wpAny M A (letOwnedTupleGo tg (.ref it) u) Q E s := by
 unfold letOwnedTupleGo
 cases tg <;> first
  | exact wpAny_pure hQ
  | (cases u <;> first
    | exact wpAny_pure hQ
    | (refine wpAny_bind (wpAny_load ho ?_)
       rw [hc, hd]
       show wpAny M A (if (["enumerate", "zip", "dict_itemiterator", "dict_reverseitemiterator", "odict_iterator", "itertools.zip_longest", "itertools.pairwise"].contains n && vs[0]? == some (rawInt _)) = true then _ else _) Q E s
       rw [if_neg (by intro h; rw [hn, Bool.false_and] at h; cases h)]
       exact wpAny_pure hQ))
noncomputable def Itl (K : PySem.W.Frag) (a : Addr) : It :=
 ⟨fun i H => ∃ xs x, SqL K H a xs /\ xs[i]? = some x, fun i H x H' => H' = H /\ ∀ xs, SqL K H a xs -> xs[i]? = some x, fun i H => ∃ xs, SqL K H a xs /\ xs.length <= i⟩
noncomputable def Itt (K : PySem.W.Frag) (a : Addr) : It :=
 ⟨fun i H => ∃ xs x, SqT K H a xs /\ xs[i]? = some x, fun i H x H' => H' = H /\ ∀ xs, SqT K H a xs -> xs[i]? = some x, fun i H => ∃ xs, SqT K H a xs /\ xs.length <= i⟩
noncomputable def Itr (lo : Int) (n : Nat) : It := ⟨fun i _ => i < n, fun i H x H' => H' = H /\ x = .int (lo + i), fun i _ => n <= i⟩
theorem l1m {P : Program} {w : World} {K : PySem.W.Frag} {tg : Expr} (a it : Addr) : Turn P w K tg (Itl K a) [it] it (fun i h => h.IsListIter it a i) where
 mem := by simp
 obj := fun i h st b hb => by
  have e : b = it := by simpa using hb
  subst e
  obtain ⟨o, e, c, d⟩ := st
  exact ⟨o, e, fun v z => by rw [d] at z; cases z⟩
 keep := fun i h h' st k => st.at fun o e => k it (by simp) o e
 item := by
  intro X hP hw hK hc i pins s σ H E I hf st hg
  subst hP hw hK
  obtain ⟨xs, x, hq, hx⟩ := hg
  obtain ⟨its, rv, p, hz⟩ := I.list hq
  obtain ⟨u, hu, ru⟩ := rv.get hx
  obtain ⟨f0, f1, f2, f3, f4, f5⟩ := hf it (by simp)
  refine wpAny_pyNext_list_item st p.isList (x := u) (by simpa using hu) fun h' st' sb => ?_
  have I1 : Inv X pins σ H { s with heap := h' } := I.turned (t' := s.toks) (fun b o hb e => (sb.2 b hb).trans e) f0 f1 f3 f4 f5
  obtain ⟨o, e, c, d⟩ := id st'
  exact ⟨u, rfl, l6t (s := { s with heap := h' }) e c d (by decide) ⟨x, H, I1, ru, ⟨rfl, fun ys hy => by rw [I.i1v hy hq]; exact hx⟩, st', fun b hb => (hf b hb).1⟩⟩
 done := by
  intro X hP hw hK hc i pins s σ H E I hf st hg
  subst hP hw hK
  obtain ⟨xs, hq, hx⟩ := hg
  obtain ⟨its, rv, p, hz⟩ := I.list hq
  obtain ⟨f0, f1, f2, f3, f4, f5⟩ := hf it (by simp)
  have hl := rv.length
  exact wpAny_pyNext_list_end (I.ok.hd hc) st p.isList (by simp; omega) fun h' eb => ⟨rfl, I.turned (t' := s.toks) (fun b o hb e => eb b o hb e) f0 f1 f3 f4 f5⟩
 self := fun _ _ _ _ _ st h => wpAny_pyIter_listiter st h
theorem k5k {P : Program} {w : World} {K : PySem.W.Frag} {tg : Expr} (a it : Addr) : Turn P w K tg (Itt K a) [it] it (fun i h => h.IsTupleIter it a i) where
 mem := by simp
 obj := fun i h st b hb => by
  have e : b = it := by simpa using hb
  subst e
  obtain ⟨o, e, c, d⟩ := st
  exact ⟨o, e, fun v z => by rw [d] at z; cases z⟩
 keep := fun i h h' st k => st.at fun o e => k it (by simp) o e
 item := by
  intro X hP hw hK hc i pins s σ H E I hf st hg
  subst hP hw hK
  obtain ⟨xs, x, hq, hx⟩ := hg
  obtain ⟨its, rv, p, hz⟩ := I.tuple hq
  obtain ⟨u, hu, ru⟩ := rv.get hx
  obtain ⟨f0, f1, f2, f3, f4, f5⟩ := hf it (by simp)
  refine wpAny_pyNext_tuple_item st (show s.heap.IsTuple a its.toArray from p) (x := u) (by simpa using hu) fun h' st' sb => ?_
  have I1 : Inv X pins σ H { s with heap := h' } := I.turned (t' := s.toks) (fun b o hb e => (sb.2 b hb).trans e) f0 f1 f3 f4 f5
  obtain ⟨o, e, c, d⟩ := id st'
  exact ⟨u, rfl, l6t (s := { s with heap := h' }) e c d (by decide) ⟨x, H, I1, ru, ⟨rfl, fun ys hy => by rw [I.i9c hy hq]; exact hx⟩, st', fun b hb => (hf b hb).1⟩⟩
 done := by
  intro X hP hw hK hc i pins s σ H E I hf st hg
  subst hP hw hK
  obtain ⟨xs, hq, hx⟩ := hg
  obtain ⟨its, rv, p, hz⟩ := I.tuple hq
  obtain ⟨f0, f1, f2, f3, f4, f5⟩ := hf it (by simp)
  have hl := rv.length
  exact wpAny_pyNext_tuple_end (I.ok.hd hc) st (show s.heap.IsTuple a its.toArray from p) (by simp; omega) fun h' eb => ⟨rfl, I.turned (t' := s.toks) (fun b o hb e => eb b o hb e) f0 f1 f3 f4 f5⟩
 self := fun _ _ _ _ _ st h => wpAny_pyIter_tupleiter st h
theorem k5l {P : Program} {w : World} {K : PySem.W.Frag} {tg : Expr} (it : Addr) (lo : Int) (n : Nat) : Turn P w K tg (Itr lo n) [it] it (fun i h => IsRangeIter h it (lo + (i : Nat) * 1) ((n : Int) - (i : Nat)) 1) where
 mem := by simp
 obj := fun i h st b hb => by
  have e : b = it := by simpa using hb
  subst e
  exact ⟨_, st, fun v z => by
   have z' : Data.fields _ = Data.cell v := z
   cases z'⟩
 keep := fun i h h' st k => k it (by simp) _ st
 item := by
  intro X hP hw hK hc i pins s σ H E I hf st hg
  subst hP hw hK
  obtain ⟨f0, f1, f2, f3, f4, f5⟩ := hf it (by simp)
  have W := Walks.range (prog := X.prog) (w := X.w) (I.ok.hd hc) it lo 1 n
  refine W.item i s _ _ hg st fun v h' tk hv st' kk => ?_
  obtain ⟨t, rfl⟩ := hv
  have I1 : Inv X pins σ H { s with heap := h', toks := tk } := I.turned (fun b o hb e => kk b o (by simpa using hb) e) f0 f1 f3 f4 f5
  refine ⟨_, rfl, l6t (s := { s with heap := h', toks := tk }) (n := "range_iterator") st' rfl rfl (by decide) ⟨.int (lo + i), H, I1, ⟨t, ?_⟩, ⟨rfl, rfl⟩, st', fun b hb => (hf b hb).1⟩⟩
  rw [Int.mul_one]
 done := by
  intro X hP hw hK hc i pins s σ H E I hf st hg
  subst hP hw hK
  obtain ⟨f0, f1, f2, f3, f4, f5⟩ := hf it (by simp)
  exact wpAny_pyNext_range_end (I.ok.hd hc) st (by have : n <= i := hg; omega) fun h' eb => ⟨rfl, I.turned (t' := s.toks) (fun b o hb e => eb b o hb e) f0 f1 f3 f4 f5⟩
 self := fun _ _ _ _ _ st h => wpAny_pyIter_rangeiter st h
end L2
namespace L2
open PySem PySem.Spec PyProof.Rows
section
variable {X : Cx} {tg : Expr}
def m5v (K : PySem.W.Frag) (tl : TE) : TI := fun σ H R => tl σ H fun x H1 => ∃ a, x = .ref a /\ (∃ xs, SqL K H1 a xs) /\ R (Itl K a) H1
theorem m1c {l : Expr} {tl : TE} (hl : PE X l tl) : PI X tg l (m5v X.K tl) := by
 intro pins s σ H R I h
 refine thn (hl pins s σ H _ I h) fun v s1 ⟨x, H1, I1, r1, q1⟩ => ?_
 obtain ⟨a, e, ⟨xs, hq⟩, q⟩ := q1
 subst e
 cases r1
 obtain ⟨its, rv, p, hz⟩ := I1.list hq
 refine wpAny_pyIter_list p.isList ?_
 refine ⟨s1.heap.objs.size, [s1.heap.objs.size], _, _, H1, rfl, I1.kept (t' := s1.toks) fun b o e => Heap.get?_push_of_some _ e, l1m a _, ⟨_, Heap.get?_push_size _ rfl, rfl, rfl⟩, fun b hb => ?_, q⟩
 have e : b = s1.heap.objs.size := by simpa using hb
 subst e
 exact I1.l6i (Nat.le_refl _) (I1.hok.fresh (Nat.le_refl _))
theorem k3y {pins : List (Addr × Obj)} {σ : St} {H : Hp} {s : Shared} {R : It -> Hp -> Prop} {E : Value -> Shared -> Prop} {lo hi : Int} {t u v : Tok} {tk : Nat} (I : Inv X pins σ H s) (h1 : -(2 ^ 62) <= lo) (h2 : lo < 2 ^ 62) (h3 : -(2 ^ 62) <= hi) (h4 : hi < 2 ^ 62)
  (q : R (Itr lo (hi - lo).toNat) H) : wpAny (model X.prog X.w) X.A (pyIter (.ref s.heap.objs.size)) (PIE X pins σ tg R) E { s with heap := s.heap.push { cls := .type "range", data := .fields #[.int lo t, .int hi u, .int 1 v] }, toks := tk } := by
 refine wpAny_pyIter_range (IsRange.new ..) (small_one h1 h2 h3 h4) ?_
 have I1 : Inv X pins σ H { s with heap := s.heap.push { cls := .type "range", data := .fields #[.int lo t, .int hi u, .int 1 v] }, toks := tk } := I.kept fun b o e => Heap.get?_push_of_some _ e
 refine ⟨(s.heap.push { cls := .type "range", data := .fields #[.int lo t, .int hi u, .int 1 v] }).objs.size, [(s.heap.push { cls := .type "range", data := .fields #[.int lo t, .int hi u, .int 1 v] }).objs.size], _, _, H, rfl,
  I1.kept (t' := tk) fun b o e => Heap.get?_push_of_some _ e, k5l _ lo (hi - lo).toNat, ?_, fun b hb => ?_, q⟩
 ·have e1 : lo + ((0 : Nat) : Int) * 1 = lo := by simp
  have e2 : (((hi - lo).toNat : Nat) : Int) - ((0 : Nat) : Int) = Builtin.Range.rangeSize lo hi 1 := by rw [rangeSize_one]; split <;> omega
  show IsRangeIter _ _ (lo + ((0 : Nat) : Int) * 1) ((((hi - lo).toNat : Nat) : Int) - ((0 : Nat) : Int)) 1
  rw [e1, e2]
  exact Heap.get?_push_size _ rfl
 ·have e : b = (s.heap.push { cls := .type "range", data := .fields #[.int lo t, .int hi u, .int 1 v] }).objs.size := by simpa using hb
  subst e
  exact I1.l6i (Nat.le_refl _) (I1.hok.fresh (Nat.le_refl _))
def m5w (ta : TA) : TI := fun σ H R => ta σ H fun vs H1 => ∃ j : Int, vs = [.int j] /\ -(2 ^ 62) <= j /\ j < 2 ^ 62 /\ R (Itr 0 j.toNat) H1
def m5x (ta : TA) : TI := fun σ H R => ta σ H fun vs H1 => ∃ i j : Int, vs = [.int i, .int j] /\ (-(2 ^ 62) <= i /\ i < 2 ^ 62 /\ -(2 ^ 62) <= j /\ j < 2 ^ 62) /\ R (Itr i (j - i).toNat) H1
theorem l1n {a : Expr} {ta : TA} {p pos : Pos} (hg : Gl X "range") (hm : X.mg "range" = none) (ha : PA X [a] ta) (hs : starEach [a] X.env = [(false, eval a X.env)] := by rfl) : PI X tg (.Call (.Name "range" p) [a] [] pos) (m5w ta) := by
 intro pins s σ H R I h
 refine Call_ (h0h I hg hm boot_range (PyProof.Rows.callWith_type1 (thn (ha pos pins s σ H _ I h) fun us s1 ⟨vs, H1, I1, r1, q1⟩ => ?_) hs rfl))
 obtain ⟨j, e, q1, q2, q⟩ := q1
 subst e
 cases r1 with
 | cons r rr =>
  cases rr
  obtain ⟨t, rfl⟩ := r
  exact call_range_1 (k3y I1 (by omega) (by omega) q1 q2 (by simpa using q))
theorem l1o {a b : Expr} {ta : TA} {p pos : Pos} (hg : Gl X "range") (hm : X.mg "range" = none) (ha : PA X [a, b] ta) (hs : starEach [a, b] X.env = [(false, eval a X.env), (false, eval b X.env)] := by rfl) (hs2 : starEach [b] X.env = [(false, eval b X.env)] := by rfl) :
  PI X tg (.Call (.Name "range" p) [a, b] [] pos) (m5x ta) := by
 intro pins s σ H R I h
 refine Call_ (h0h I hg hm boot_range (PyProof.Rows.callWith_type1 (thn (ha pos pins s σ H _ I h) fun us s1 ⟨vs, H1, I1, r1, q1⟩ => ?_) (by rw [hs, hs2]) (by rw [hs2]; rfl)))
 obtain ⟨i, j, e, ⟨q1, q2, q3, q4⟩, q⟩ := q1
 subst e
 cases r1 with
 | cons r rr =>
  cases rr with
  | cons r' rr =>
   cases rr
   obtain ⟨t, rfl⟩ := r
   obtain ⟨t', rfl⟩ := r'
   exact call_range_2 (k3y I1 q1 q2 q3 q4 q)
def tFor (wi : TI) (g : TG) (tb : TS) : TS := fun D σ H => wi σ H fun J H1 => ∃ W : Nat -> Nat -> St -> Hp -> Prop, (∃ m, W 0 m σ H1) /\ ∀ i m σ H, W i m σ H ->
 (J.stop i H /\ D.nx σ H) \/ (J.go i H /\ ∃ N : St -> Hp -> Prop, (∀ σ' H', N σ' H' -> ∃ m', m' < m /\ W (i + 1) m' σ' H') /\ ∀ x H', J.yld i H x H' -> g x σ H' fun σ2 H2 => tb { D with nx := N, ct := N, bk := D.nx } σ2 H2)
noncomputable def i0f (fp : List Addr) (h : Heap) : List (Addr × Obj) := fp.filterMap fun b => (h.get? b).map fun o => (b, o)
theorem c3i {fp : List Addr} {h : Heap} {b : Addr} {o : Obj} (hb : b ∈ fp) (e : h.get? b = some o) : (b, o) ∈ i0f fp h := List.mem_filterMap.mpr ⟨b, hb, by rw [e]; rfl⟩
theorem l1p {fp : List Addr} {h : Heap} {p : Addr × Obj} (hp : p ∈ i0f fp h) : p.1 ∈ fp /\ h.get? p.1 = some p.2 := by
 obtain ⟨b, hb, e⟩ := List.mem_filterMap.mp hp
 cases q : h.get? b with
 | none => rw [q] at e; cases e
 | some o =>
  rw [q] at e
  have e' : (b, o) = p := Option.some.inj e
  subst e'
  exact ⟨hb, q⟩
theorem Inv.pinned {pins : List (Addr × Obj)} {σ : St} {H : Hp} {s : Shared} {fp : List Addr} (I : Inv X pins σ H s) (hf : ∀ b ∈ fp, i1x X pins H b) (ho : ∀ b ∈ fp, ∃ o, s.heap.get? b = some o /\ ∀ v, o.data ≠ .cell v) : Inv X (pins ++ i0f fp s.heap) σ H s :=
 I.l1k fun p hp => (List.mem_append.mp hp).elim (fun z => I.pin p (List.mem_append_right _ z)) fun z => by
  obtain ⟨hb, e⟩ := l1p z
  obtain ⟨f0, f1, f2, _⟩ := hf p.1 hb
  obtain ⟨o, e', d⟩ := ho p.1 hb
  rw [e] at e'; cases e'
  exact ⟨e, f0, f1, f2, d⟩
theorem Inv.f9y {pins pl : List (Addr × Obj)} {σ : St} {H : Hp} {s : Shared} (I : Inv X (pins ++ pl) σ H s) : Inv X pins σ H s := I.l1k fun p hp => I.pin p (List.mem_append_right _ (List.mem_append_left _ hp))
theorem m5y {iter : Expr} {body : List Stmt} {wi : TI} {g : TG} {tb : TS} {pos : Pos} (hp : PassesOwn (model X.prog X.w) X.A X.env X.xe) (hc : X.calm = true) (hi : PI X tg iter wi) (hg : PG X tg g) (hb : PSs X body tb)
  (hs : ∀ x, foldedSetIterable iter X.env x = pure x := by intro _; rfl) : PS X (.For tg iter body [] pos) (tFor wi g tb) := by
 intro pins s σ H D I h
 refine wpAny_For (thn (hi pins s σ H _ I h) fun v s1 h1 => thn h1 fun itv s2 h2 => ?_) hs
 obtain ⟨it, fp, tn, J, H2, e, I2, T, st2, f2, W, ⟨m0, w0⟩, turn⟩ := h2
 subst e
 -- what stays true of the iterator's objects through the loop
 have stat : ∀ {H' : Hp}, (∀ b ∈ fp, H' b = none) -> ∀ b ∈ fp, i1x X pins H' b := fun hn b hb => ⟨hn b hb, (f2 b hb).2⟩
 refine codeAny_forLoop_any (fun n s' => ∃ i σ' H', Inv X pins σ' H' s' /\ tn i s'.heap /\ (∀ b ∈ fp, H' b = none) /\ W i n σ' H') ?_ m0 ⟨0, σ, H2, I2, st2, fun b hb => (f2 b hb).1, w0⟩
 rintro n s3 ⟨i, σ3, H3, I3, st3, fr3, w3⟩
 rcases turn i n σ3 H3 w3 with ⟨stop, qn⟩ | ⟨go, N, hN, step⟩
 ·refine wpAny_passesOwn hp (thn (T.done X rfl rfl rfl hc i pins s3 σ3 H3 X.xe I3 (stat fr3) st3 stop) fun r s4 ⟨hr, I4⟩ => ?_)
  subst hr
  exact wpAny_execs_nil ⟨σ3, H3, I4, qn⟩
 ·refine wpAny_passesOwn hp (thn (T.item X rfl rfl rfl hc i pins s3 σ3 H3 X.xe I3 (stat fr3) st3 go) fun r s4 ⟨u, hr, h4⟩ => ?_)
  subst hr
  refine wpAny_passesOwn hp (thn h4 fun _ s5 ⟨x, H5, I5, r5, y5, st5, fr5⟩ => ?_)
  have I5' := I5.pinned (stat fr5) (T.obj _ _ st5)
  refine wpAny_passesOwn hp (thn (hg _ s5 σ3 H5 x u _ I5' r5 (step x H5 y5)) fun _ s6 ⟨σ6, H6, I6, q6⟩ => ?_)
  refine wpAny_passesOwn hp (thn (hb _ s6 σ6 H6 _ I6 q6) fun f s7 q7 => ?_)
  have again : ∀ {σ7 : St} {H7 : Hp}, Inv X (pins ++ i0f fp s5.heap) σ7 H7 s7 -> N σ7 H7 -> ∃ m, m < n /\ ∃ i σ' H', Inv X pins σ' H' s7 /\ tn i s7.heap /\ (∀ b ∈ fp, H' b = none) /\ W i m σ' H' := fun {σ7 H7} I7 n7 => by
   obtain ⟨m', hm, w7⟩ := hN σ7 H7 n7
   refine ⟨m', hm, i + 1, σ7, H7, I7.f9y, T.keep _ _ _ st5 fun b hb o e => (I7.pin (b, o) (List.mem_append_right _ (List.mem_append_right _ (c3i hb e)))).1, fun b hb => ?_, w7⟩
   obtain ⟨o, e, d⟩ := T.obj _ _ st5 b hb
   exact (I7.pin (b, o) (List.mem_append_right _ (List.mem_append_right _ (c3i hb e)))).2.1
  cases f with
  | next => obtain ⟨σ7, H7, I7, n7⟩ := q7; exact again I7 n7
  | cont => obtain ⟨σ7, H7, I7, n7⟩ := q7; exact again I7 n7
  | brk => obtain ⟨σ7, H7, I7, q7⟩ := q7; exact ⟨σ7, H7, I7.f9y, q7⟩
  | ret v => obtain ⟨x7, σ7, H7, I7, r7, q7⟩ := q7; exact ⟨x7, σ7, H7, I7.f9y, r7, q7⟩
end
theorem l6u {K : PySem.W.Frag} {a : Addr} {xs : List V} {g : TG} {tb : TS} {D : Ends} {σ : St} {H : Hp} (Pv : Nat -> St -> Hp -> Prop) (h0 : Pv 0 σ H) (hl : ∀ i σ H, i <= xs.length -> Pv i σ H -> SqL K H a xs)
  (hs : ∀ i x σ H, xs[i]? = some x -> Pv i σ H -> g x σ H fun σ2 H2 => tb { D with nx := Pv (i + 1), ct := Pv (i + 1), bk := D.nx } σ2 H2) (hd : ∀ σ H, Pv xs.length σ H -> D.nx σ H) :
  ∃ W : Nat -> Nat -> St -> Hp -> Prop, (∃ m, W 0 m σ H) /\ ∀ i m σ H, W i m σ H ->
   ((Itl K a).stop i H /\ D.nx σ H) \/ ((Itl K a).go i H /\ ∃ N : St -> Hp -> Prop, (∀ σ' H', N σ' H' -> ∃ m', m' < m /\ W (i + 1) m' σ' H') /\ ∀ x H', (Itl K a).yld i H x H' -> g x σ H' fun σ2 H2 => tb { D with nx := N, ct := N, bk := D.nx } σ2 H2) := by
 refine ⟨fun i m σ H => m = xs.length - i /\ i <= xs.length /\ Pv i σ H, ⟨xs.length, by simp, Nat.zero_le _, h0⟩, ?_⟩
 rintro i m σ H ⟨rfl, hi, p⟩
 have q := hl i σ H hi p
 by_cases hlt : i < xs.length
 ·refine .inr ⟨⟨xs, xs[i], q, by simp [hlt]⟩, Pv (i + 1), fun σ' H' p' => ⟨xs.length - (i + 1), by omega, rfl, hlt, p'⟩, fun x H' y => ?_⟩
  obtain ⟨e, y⟩ := y
  subst e
  exact hs i x σ _ (y xs q) p
 ·have e : i = xs.length := by omega
  subst e
  exact .inl ⟨⟨xs, q, Nat.le_refl _⟩, hd σ H p⟩
theorem l1q {lo : Int} {n : Nat} {g : TG} {tb : TS} {D : Ends} {σ : St} {H : Hp} (Pv : Nat -> St -> Hp -> Prop) (h0 : Pv 0 σ H)
  (hs : ∀ i σ H, i < n -> Pv i σ H -> g (.int (lo + i)) σ H fun σ2 H2 => tb { D with nx := Pv (i + 1), ct := Pv (i + 1), bk := D.nx } σ2 H2) (hd : ∀ σ H, Pv n σ H -> D.nx σ H) :
  ∃ W : Nat -> Nat -> St -> Hp -> Prop, (∃ m, W 0 m σ H) /\ ∀ i m σ H, W i m σ H ->
   ((Itr lo n).stop i H /\ D.nx σ H) \/ ((Itr lo n).go i H /\ ∃ N : St -> Hp -> Prop, (∀ σ' H', N σ' H' -> ∃ m', m' < m /\ W (i + 1) m' σ' H') /\ ∀ x H', (Itr lo n).yld i H x H' -> g x σ H' fun σ2 H2 => tb { D with nx := N, ct := N, bk := D.nx } σ2 H2) := by
 refine ⟨fun i m σ H => m = n - i /\ i <= n /\ Pv i σ H, ⟨n, by simp, Nat.zero_le _, h0⟩, ?_⟩
 rintro i m σ H ⟨rfl, hi, p⟩
 by_cases hlt : i < n
 ·refine .inr ⟨hlt, Pv (i + 1), fun σ' H' p' => ⟨n - (i + 1), by omega, rfl, hlt, p'⟩, fun x H' y => ?_⟩
  obtain ⟨e, y⟩ := y
  subst e y
  exact hs i σ _ hlt p
 ·have e : i = n := by omega
  subst e
  exact .inl ⟨Nat.le_refl _, hd σ H p⟩
end L2
namespace L2
open PySem PySem.Spec PyProof.Rows
noncomputable abbrev R2 := V -> V -> Hp -> VK -> Prop
def OpR (X : Cx) (f : Value -> Value -> Sem Value) (r : R2) : Prop :=
 ∀ (pins : List (Addr × Obj)) (s : Shared) (σ : St) (H : Hp) (x y : V) (v u : Value) (Q : VK), Inv X pins σ H s -> RelV x v -> RelV y u -> r x y H Q ->
  wpAny (model X.prog X.w) X.A (f v u) (EP X pins σ Q) X.xe s
def UnR (X : Cx) (f : Value -> Sem Value) (r : V -> Hp -> VK -> Prop) : Prop :=
 ∀ (pins : List (Addr × Obj)) (s : Shared) (σ : St) (H : Hp) (x : V) (v : Value) (Q : VK), Inv X pins σ H s -> RelV x v -> r x H Q ->
  wpAny (model X.prog X.w) X.A (f v) (EP X pins σ Q) X.xe s
def c0j (X : Cx) (f : Value) (r : List V -> Hp -> VK -> Prop) : Prop :=
 ∀ (pins : List (Addr × Obj)) (s : Shared) (σ : St) (H : Hp) (xs : List V) (us : List Value) (Q : VK), Inv X pins σ H s -> Vals xs us -> r xs H Q ->
  wpAny (model X.prog X.w) X.A (call f us) (EP X pins σ Q) X.xe s
def tOp (r : R2) (ta tb : TE) : TE := fun σ H Q => ta σ H fun x H1 => tb σ H1 fun y H2 => r x y H2 Q
def tUn (r : V -> Hp -> VK -> Prop) (ta : TE) : TE := fun σ H Q => ta σ H fun x H1 => r x H1 Q
def rI (C : Int -> Int -> Prop) (g : Int -> Int -> V) : R2 := fun x y H Q => ∃ i j, x = .int i /\ y = .int j /\ C i j /\ Q (g i j) H
def rI0 (g : Int -> Int -> V) : R2 := fun x y H Q => ∃ i j, x = .int i /\ y = .int j /\ Q (g i j) H
noncomputable def rU (g : Int -> V) : V -> Hp -> VK -> Prop := fun x H Q => ∃ i, x = .int i /\ Q (g i) H
section
variable {X : Cx} {a b c : Expr} {ta tb tc : TE} {pos : Pos}
theorem n0s (ha : PE X a ta) (hb : PE X b tb) {pins : List (Addr × Obj)} {s : Shared} {σ : St} {H : Hp} {R : V -> V -> Hp -> Prop} (I : Inv X pins σ H s)
  (h : ta σ H fun x H1 => tb σ H1 fun y H2 => R x y H2) {Q : Value -> Shared -> Prop} {f : Value -> Value -> Sem Value}
  (hf : ∀ v u s2 x y H2, Inv X pins σ H2 s2 -> RelV x v -> RelV y u -> R x y H2 -> wpAny (model X.prog X.w) X.A (f v u) Q X.xe s2) :
  wpAny (model X.prog X.w) X.A (eval a X.env) (fun v s₁ => wpAny (model X.prog X.w) X.A (eval b X.env) (fun u s₂ => wpAny (model X.prog X.w) X.A (f v u) Q X.xe s₂) X.xe s₁) X.xe s := by
 refine thn (ha pins s σ H _ I h) fun v s1 ⟨x, H1, I1, r1, q1⟩ => ?_
 refine thn (hb pins s1 σ H1 _ I1 q1) fun u s2 ⟨y, H2, I2, r2, q2⟩ => ?_
 exact hf v u s2 x y H2 I2 r1 r2 q2
theorem a1i {op : Operator} {r : R2} (ho : OpR X (binaryOp op) r) (ha : PE X a ta) (hb : PE X b tb) : PE X (.BinOp a op b pos) (tOp r ta tb) := by
 intro pins s σ H Q I h
 exact wpAny_BinOp (n0s ha hb I h fun v u s2 x y H2 I2 rx ry q => ho pins s2 σ H2 x y v u Q I2 rx ry q)
theorem l1r {op : UnaryOp} {r : V -> Hp -> VK -> Prop} (ho : UnR X (unaryOp op) r) (ha : PE X a ta) : PE X (.UnaryOp op a pos) (tUn r ta) := by
 intro pins s σ H Q I h
 exact UnaryOp_ (thn (ha pins s σ H _ I h) fun v s1 ⟨x, H1, I1, r1, q1⟩ => ho pins s1 σ H1 x v Q I1 r1 q1)
theorem opI {f : Value -> Value -> Sem Value} {C : Int -> Int -> Prop} {g : Int -> Int -> Int}
  (rule : ∀ (i j : Int) (t u : Tok) (s : Shared) (Q : Value -> Shared -> Prop) (E : Value -> Shared -> Prop), C i j -> Q (.int (g i j) s.toks) { s with toks := s.toks + 1 } -> wpAny (model X.prog X.w) X.A (f (.int i t) (.int j u)) Q E s) :
  OpR X f (rI C fun i j => .int (g i j)) := by
 intro pins s σ H x y v u Q I rx ry h
 obtain ⟨i, j, rfl, rfl, hc, q⟩ := h
 obtain ⟨t, rfl⟩ := rx
 obtain ⟨t', rfl⟩ := ry
 exact rule i j t t' s _ _ hc ⟨.int (g i j), H, I.tok _, ⟨_, rfl⟩, q⟩
theorem n3p {f : Value -> Value -> Sem Value} {g : Int -> Int -> Int}
  (rule : ∀ (i j : Int) (t u : Tok) (s : Shared) (Q : Value -> Shared -> Prop) (E : Value -> Shared -> Prop), Q (.int (g i j) s.toks) { s with toks := s.toks + 1 } -> wpAny (model X.prog X.w) X.A (f (.int i t) (.int j u)) Q E s) :
  OpR X f (rI0 fun i j => .int (g i j)) := by
 intro pins s σ H x y v u Q I rx ry h
 obtain ⟨i, j, rfl, rfl, q⟩ := h
 obtain ⟨t, rfl⟩ := rx
 obtain ⟨t', rfl⟩ := ry
 exact rule i j t t' s _ _ ⟨.int (g i j), H, I.tok _, ⟨_, rfl⟩, q⟩
theorem n0e {f : Value -> Value -> Sem Value} {g : Int -> Int -> Bool}
  (rule : ∀ (i j : Int) (t u : Tok) (s : Shared) (Q : Value -> Shared -> Prop) (E : Value -> Shared -> Prop), Q (.bool (g i j)) s -> wpAny (model X.prog X.w) X.A (f (.int i t) (.int j u)) Q E s) :
  OpR X f (rI0 fun i j => .bl (g i j)) := by
 intro pins s σ H x y v u Q I rx ry h
 obtain ⟨i, j, rfl, rfl, q⟩ := h
 obtain ⟨t, rfl⟩ := rx
 obtain ⟨t', rfl⟩ := ry
 exact rule i j t t' s _ _ ⟨.bl (g i j), H, I, rfl, q⟩
def n3q (i j : Int) : Prop := 0 <= j /\ j <= 1000000 /\ i.natAbs < 2 ^ 64
theorem m5z : OpR X (binaryOp .Add) (rI0 fun i j => .int (i + j)) := n3p fun _ _ _ _ _ _ _ q => add_int q
theorem m6a : OpR X (binaryOp .Sub) (rI0 fun i j => .int (i - j)) := n3p fun _ _ _ _ _ _ _ q => sub_int q
theorem m1d : OpR X (binaryOp .Mod) (rI (fun _ j => j ≠ 0) fun i j => .int (i.fmod j)) := opI fun _ _ _ _ _ _ _ hc q => mod_int' hc q
theorem m6b : OpR X (binaryOp .Pow) (rI n3q fun i j => .int (i ^ j.toNat)) := opI fun _ _ _ _ _ _ _ hc q => pow_int_small hc.1 hc.2.1 hc.2.2 q
theorem unI {f : Value -> Sem Value} {g : Int -> Int}
  (rule : ∀ (i : Int) (t : Tok) (s : Shared) (Q : Value -> Shared -> Prop) (E : Value -> Shared -> Prop), Q (.int (g i) s.toks) { s with toks := s.toks + 1 } -> wpAny (model X.prog X.w) X.A (f (.int i t)) Q E s) :
  UnR X f (rU fun i => .int (g i)) := by
 intro pins s σ H x v Q I rx h
 obtain ⟨i, rfl, q⟩ := h
 obtain ⟨t, rfl⟩ := rx
 exact rule i t s _ _ ⟨.int (g i), H, I.tok _, ⟨_, rfl⟩, q⟩
theorem m6c : UnR X (unaryOp .USub) (rU fun i => .int (-i)) := unI fun _ _ _ _ _ q => neg_int q
end
noncomputable def l1s : V -> V -> Bool
 | .non, .non => true | .non, .int _ => true | .int _, .non => true | .non, .bl _ => true | .bl _, .non => true | .non, .str _ => true | .str _, .non => true
 | .int _, .int _ => true | .bl _, .bl _ => true | .str _, .str _ => true | .byt _, .byt _ => true
 | .int _, .str _ => true | .str _, .int _ => true | .bl _, .str _ => true | .str _, .bl _ => true
 | _, _ => false
def rEq : R2 := fun x y H Q => l1s x y = true /\ Q (.bl (decide (x = y))) H
def rNe : R2 := fun x y H Q => l1s x y = true /\ Q (.bl (!decide (x = y))) H
theorem l1t {i j : Int} : decide (V.int i = V.int j) = (i == j) := by
 rw [Bool.eq_iff_iff]
 simp
theorem l9r {i j : Bool} : decide (V.bl i = V.bl j) = (i == j) := by
 rw [Bool.eq_iff_iff]
 simp
theorem l1u {i j : Str} : decide (V.str i = V.str j) = (i == j) := by
 rw [Bool.eq_iff_iff]
 simp
theorem l1v {i j : Array UInt8} : decide (V.byt i = V.byt j) = (i.toList == j.toList) := by
 rw [Bool.eq_iff_iff]
 cases i
 cases j
 simp
section
variable {X : Cx} {a b c : Expr} {ta tb tc : TE} {pos : Pos}
theorem a5u {pins : List (Addr × Obj)} {σ : St} {H : Hp} {s : Shared} {Q : VK} {k k' : Bool} (I : Inv X pins σ H s) (q : Q (.bl k) H) (e : k = k') : EP X pins σ Q (.bool k') s := by
 subst e
 exact ⟨.bl k, H, I, rfl, q⟩
theorem n0t : OpR X (compareOp .Eq) rEq := by
 intro pins s σ H x y v u Q I rx ry h
 obtain ⟨hs, q⟩ := h
 cases x with
 | non =>
  cases rx
  cases y with
  | non => cases ry; exact PySem.EqNone.eq_none_none (a5u I q (by simp))
  | bl j => cases ry; exact PySem.EqNone.eq_none_bool (a5u I q (by simp))
  | int j => obtain ⟨t', rfl⟩ := ry; exact PySem.EqNone.eq_none_int (a5u I q (by simp))
  | str j => obtain ⟨t', rfl⟩ := ry; exact PySem.EqNone.eq_none_str (a5u I q (by simp))
  | _ => exact absurd (show false = true from hs) Bool.false_ne_true
 | bl i =>
  cases rx
  cases y with
  | non => cases ry; exact PySem.EqNone.eq_bool_none (a5u I q (by simp))
  | bl j => cases ry; exact eq_bool (a5u I q l9r)
  | str j => obtain ⟨t', rfl⟩ := ry; exact PySem.EqMixed.eq_bool_str (a5u I q (by simp))
  | _ => exact absurd (show false = true from hs) Bool.false_ne_true
 | int i =>
  obtain ⟨t, rfl⟩ := rx
  cases y with
  | non => cases ry; exact PySem.EqNone.eq_int_none (a5u I q (by simp))
  | int j => obtain ⟨t', rfl⟩ := ry; exact eq_int (a5u I q l1t)
  | str j => obtain ⟨t', rfl⟩ := ry; exact PySem.EqMixed.eq_int_str (a5u I q (by simp))
  | _ => exact absurd (show false = true from hs) Bool.false_ne_true
 | str i =>
  obtain ⟨t, rfl⟩ := rx
  cases y with
  | non => cases ry; exact PySem.EqNone.eq_str_none (a5u I q (by simp))
  | bl j => cases ry; exact PySem.EqMixed.eq_str_bool (a5u I q (by simp))
  | int j => obtain ⟨t', rfl⟩ := ry; exact PySem.EqMixed.eq_str_int (a5u I q (by simp))
  | str j => obtain ⟨t', rfl⟩ := ry; exact eq_str (a5u I q l1u)
  | _ => exact absurd (show false = true from hs) Bool.false_ne_true
 | byt i =>
  obtain ⟨t, rfl⟩ := rx
  cases y with
  | byt j => obtain ⟨t', rfl⟩ := ry; exact PySem.W.eq_bytes (a5u I q l1v)
  | _ => exact absurd (show false = true from hs) Bool.false_ne_true
 | _ => cases y <;> exact absurd (show false = true from hs) Bool.false_ne_true
theorem n0u : OpR X (compareOp .NotEq) rNe := by
 intro pins s σ H x y v u Q I rx ry h
 obtain ⟨hs, q⟩ := h
 cases x with
 | non =>
  cases rx
  cases y with
  | non => cases ry; exact PySem.EqNone.ne_none_none (a5u I q (by simp))
  | bl j => cases ry; exact PySem.EqNone.ne_none_bool (a5u I q (by simp))
  | int j => obtain ⟨t', rfl⟩ := ry; exact PySem.EqNone.ne_none_int (a5u I q (by simp))
  | str j => obtain ⟨t', rfl⟩ := ry; exact PySem.EqNone.ne_none_str (a5u I q (by simp))
  | _ => exact absurd (show false = true from hs) Bool.false_ne_true
 | bl i =>
  cases rx
  cases y with
  | non => cases ry; exact PySem.EqNone.ne_bool_none (a5u I q (by simp))
  | bl j => cases ry; exact ne_bool (a5u I q (congrArg not l9r))
  | str j => obtain ⟨t', rfl⟩ := ry; exact PySem.EqMixed.ne_bool_str (a5u I q (by simp))
  | _ => exact absurd (show false = true from hs) Bool.false_ne_true
 | int i =>
  obtain ⟨t, rfl⟩ := rx
  cases y with
  | non => cases ry; exact PySem.EqNone.ne_int_none (a5u I q (by simp))
  | int j => obtain ⟨t', rfl⟩ := ry; exact ne_int (a5u I q (congrArg not l1t))
  | str j => obtain ⟨t', rfl⟩ := ry; exact PySem.EqMixed.ne_int_str (a5u I q (by simp))
  | _ => exact absurd (show false = true from hs) Bool.false_ne_true
 | str i =>
  obtain ⟨t, rfl⟩ := rx
  cases y with
  | non => cases ry; exact PySem.EqNone.ne_str_none (a5u I q (by simp))
  | bl j => cases ry; exact PySem.EqMixed.ne_str_bool (a5u I q (by simp))
  | int j => obtain ⟨t', rfl⟩ := ry; exact PySem.EqMixed.ne_str_int (a5u I q (by simp))
  | str j => obtain ⟨t', rfl⟩ := ry; exact ne_str (a5u I q (congrArg not l1u))
  | _ => exact absurd (show false = true from hs) Bool.false_ne_true
 | byt i =>
  obtain ⟨t, rfl⟩ := rx
  cases y with
  | byt j => obtain ⟨t', rfl⟩ := ry; exact PySem.W.ne_bytes (a5u I q (congrArg not l1v))
  | _ => exact absurd (show false = true from hs) Bool.false_ne_true
 | _ => cases y <;> exact absurd (show false = true from hs) Bool.false_ne_true
theorem n0v : OpR X (compareOp .Lt) (rI0 fun i j => .bl (decide (i < j))) := n0e fun _ _ _ _ _ _ _ q => lt_int q
theorem n0w : OpR X (compareOp .LtE) (rI0 fun i j => .bl (decide (i <= j))) := n0e fun _ _ _ _ _ _ _ q => le_int q
theorem n0x : OpR X (compareOp .Gt) (rI0 fun i j => .bl (decide (j < i))) := n0e fun _ _ _ _ _ _ _ q => gt_int q
theorem n0y : OpR X (compareOp .GtE) (rI0 fun i j => .bl (decide (j <= i))) := n0e fun _ _ _ _ _ _ _ q => ge_int q
theorem l9s : OpR X (compareOp .Is) (fun x y H Q => y = .non /\ Q (.bl (decide (x = .non))) H) := by
 intro pins s σ H x y v u Q I rx ry h
 obtain ⟨rfl, q⟩ := h
 cases ry
 refine is_none_gen (a5u I q ?_)
 cases x <;> first
  | (cases rx; rfl)
  | (obtain ⟨t, rfl⟩ := rx; rfl)
theorem a2v (b : Expr) {op : CmpOp} (h : op ≠ .In := by decide) (h2 : op ≠ .NotIn := by decide) : behindInMarks op b = false := by
 have e1 : (op == CmpOp.In) = false := by cases op <;> first | rfl | exact absurd rfl h
 have e2 : (op == CmpOp.NotIn) = false := by cases op <;> first | rfl | exact absurd rfl h2
 cases b <;> simp [behindInMarks, e1, e2]
theorem h0i {op : CmpOp} {r : R2} (ho : OpR X (compareOp op) r) (ha : PE X a ta) (hb : PE X b tb) (hm : behindInMarks op b = false) : PE X (.Compare a [op] [b] pos) (tOp r ta tb) := by
 intro pins s σ H Q I h
 exact wpAny_Compare1 (n0s ha hb I h fun v u s2 x y H2 I2 rx ry q => ho pins s2 σ H2 x y v u Q I2 rx ry q) hm
def m6d (t : TE) : TT := fun σ H Q => t σ H fun x H' => ∃ k, x = .bl k /\ Q k H'
theorem m1e {op : CmpOp} {r : R2} (ho : OpR X (compareOp op) r) (ha : PE X a ta) (hb : PE X b tb) (hm : behindInMarks op b = false) : PT X (.Compare a [op] [b] pos) (m6d (tOp r ta tb)) := by
 intro pins s σ H Q I h
 refine wpAny_isTrue_Compare1 (thn (ha pins s σ H _ I h) fun v s1 ⟨x, H1, I1, r1, q1⟩ => thn (hb pins s1 σ H1 _ I1 q1) fun u s2 ⟨y, H2, I2, r2, q2⟩ =>
  thn (ho pins s2 σ H2 x y v u _ I2 r1 r2 q2) fun c s3 ⟨z, H3, I3, r3, k, e, q3⟩ => ?_) hm
 subst e
 cases r3
 exact wpAny_truthy_bool ⟨H3, I3, q3⟩
theorem i9d : (sizeLine : Nat) < 2 ^ 63 := by rw [sizeLine_eq]; decide
theorem k5m : OpR X (binaryOp .Add) (fun x y H Q => ∃ i j, x = .str i /\ y = .str j /\ i.length + j.length <= sizeLine /\ Q (.str (i ++ j)) H) := by
 intro pins s σ H x y v u Q I rx ry h
 obtain ⟨i, j, rfl, rfl, hz, q⟩ := h
 obtain ⟨t, rfl⟩ := rx
 obtain ⟨t', rfl⟩ := ry
 exact add_str (fun t' tk => ⟨.str (i ++ j), H, I.tok _, ⟨_, rfl⟩, q⟩) hz
theorem vals1 {x : V} {us : List Value} (r : Vals [x] us) : ∃ u, us = [u] /\ RelV x u := by
 cases r with
 | cons r1 r2 => cases r2; exact ⟨_, rfl, r1⟩
theorem vals2 {x y : V} {us : List Value} (r : Vals [x, y] us) : ∃ u w', us = [u, w'] /\ RelV x u /\ RelV y w' := by
 cases r with
 | cons r1 r2 =>
  cases r2 with
  | cons r3 r4 => cases r4; exact ⟨_, _, rfl, r1, r3⟩
theorem l6v : c0j X (.builtin "abs") (fun xs H Q => ∃ i, xs = [.int i] ∧ Q (.int (if i < 0 then -i else i)) H) := by
 intro pins s σ H xs us Q I r h
 obtain ⟨i, rfl, q⟩ := h
 obtain ⟨u, rfl, t, rfl⟩ := vals1 r
 exact call_abs_int fun u tk => ⟨.int (if i < 0 then -i else i), H, I.tok _, ⟨_, rfl⟩, q⟩
theorem l1w (hc : X.calm = true) : c0j X (.builtin "max") (fun xs H Q => ∃ i j, xs = [.int i, .int j] ∧ Q (.int (if j > i then j else i)) H) := by
 intro pins s σ H xs us Q I r h
 obtain ⟨i, j, rfl, q⟩ := h
 obtain ⟨u, w', rfl, ⟨t, rfl⟩, ⟨t', rfl⟩⟩ := vals2 r
 refine max_two_ints (I.ok.hd hc) fun h' tk k => ⟨_, H, I.kept k, ?_, q⟩
 by_cases hj : j > i
 ·rw [if_pos hj, if_pos hj]; exact ⟨_, rfl⟩
 ·rw [if_neg hj, if_neg hj]; exact ⟨_, rfl⟩
theorem l1x (hc : X.calm = true) : c0j X (.builtin "min") (fun xs H Q => ∃ i j, xs = [.int i, .int j] ∧ Q (.int (if j < i then j else i)) H) := by
 intro pins s σ H xs us Q I r h
 obtain ⟨i, j, rfl, q⟩ := h
 obtain ⟨u, w', rfl, ⟨t, rfl⟩, ⟨t', rfl⟩⟩ := vals2 r
 refine min_two_ints (I.ok.hd hc) fun h' tk k => ⟨_, H, I.kept k, ?_, q⟩
 by_cases hj : j < i
 ·rw [if_pos hj, if_pos hj]; exact ⟨_, rfl⟩
 ·rw [if_neg hj, if_neg hj]; exact ⟨_, rfl⟩
theorem i9e : c0j X (.type "int") (fun xs H Q => (∃ i, xs = [.int i] ∧ Q (.int i) H) ∨ ∃ k, xs = [.bl k] ∧ Q (.int (if k then 1 else 0)) H) := by
 intro pins s σ H xs us Q I r h
 rcases h with ⟨i, rfl, q⟩ | ⟨k, rfl, q⟩
 ·obtain ⟨u, rfl, t, rfl⟩ := vals1 r
  exact call_int_int ⟨.int i, H, I, ⟨_, rfl⟩, q⟩
 ·obtain ⟨u, rfl, r1⟩ := vals1 r
  cases r1
  exact call_int_bool ⟨.int (if k then 1 else 0), H, I.tok _, ⟨_, rfl⟩, q⟩
theorem i9f : c0j X (.type "str") (fun xs H Q => ∃ i, xs = [.int i] ∧ i.natAbs.log2 < 1920 ∧ Q (.str (toString i)) H) := by
 intro pins s σ H xs us Q I r h
 obtain ⟨i, rfl, hz, q⟩ := h
 obtain ⟨u, rfl, t, rfl⟩ := vals1 r
 exact PySem.P.str_of_int hz ⟨.str _, H, I.tok _, ⟨_, rfl⟩, q⟩
end
end L2
namespace L2
open PySem PySem.Spec PyProof.Rows
structure m1f (h : Heap) (x dx C : Addr) (mA : Str -> Option Value) : Prop where
 obj : h.get? x = some (PySem.W.instObj C dx)
 ns : h.Ns1 dx mA
 ne : dx ≠ x
theorem l1y {h : Heap} {dx : Addr} {mA : Str -> Option Value} (n : h.Ns1 dx mA) : ∃ od, h.get? dx = some od /\ ∀ name, PySem.W.lookIn name od = some (mA name) := by
 obtain ⟨o, es, ep, ho, hd, hk, _, hm⟩ := n
 refine ⟨o, ho, fun name => ?_⟩
 have e := hm name
 unfold nsFind findBy at e
 rw [<- Array.find?_toList] at e
 unfold PySem.W.lookIn
 rw [hd]
 dsimp only
 split
 ·rename_i y q
  rw [q] at e
  exact congrArg some e
 ·rename_i q
  rw [q] at e
  have a : es.toList.any (·.refKey) = false := by
   rw [List.any_eq_false]
   intro y hy
   obtain ⟨z, t, hkey⟩ := hk y (Array.mem_toList_iff.mp hy)
   simp [DictEntry.refKey, hkey]
  have a' : ¬ es.toList.any (·.refKey) = true := by rw [a]; exact Bool.false_ne_true
  rw [if_neg a']
  exact congrArg some e
theorem m1f.look {h : Heap} {x dx C : Addr} {mA : Str -> Option Value} (I : m1f h x dx C mA) : ∃ od, PySem.W.InstAt h x (PySem.W.instObj C dx) C (some od) /\ ∀ name, PySem.W.lookIn name od = some (mA name) :=
 let ⟨od, ho, hl⟩ := l1y I.ns
 ⟨od, ⟨I.obj, rfl, rfl, ho⟩, hl⟩
section
variable {prog : Program} {w : World} {A : Around} {E : Value -> Shared -> Prop} {s : Shared} {K : PySem.W.Frag} {x dx C f : Addr} {mA : Str -> Option Value} {name : Str} {v : Value}
theorem get_map {expr : Bool} {Q : Value -> Shared -> Prop} (X : K.In s.heap) (I : m1f s.heap x dx C mA) (hg : PySem.W.plainGet K C name = true) (hh : PySem.W.hasDictIn K C = true)
  (ha : PySem.W.findIn K (.ref C) name = some none) (hv : mA name = some v) (hv' : PySem.W.handedIn v = true) (h : Q v { s with toks := s.toks + 1 }) :
  wpAny (model prog w) A (getAttr (.ref x) name expr) Q E s := by
 obtain ⟨od, J, hl⟩ := I.look
 exact PySem.W.get_value X J (PySem.W.plainGet_of hg).1 (PySem.W.findObj_own hh ha rfl (by rw [hl, hv])) hv' h
theorem l6w {pl : Sem Bool} {Q : Value × List Value -> Shared -> Prop} (X : K.In s.heap) (I : m1f s.heap x dx C mA) (hg : PySem.W.plainGet K C name = true)
  (hf : PySem.W.findIn K (.ref C) name = some (some (.ref f))) (ht : PySem.W.isFn K (.ref f) = true) (hv : mA name = none) (h : Q (.ref f, [.ref x]) s) :
  wpAny (model prog w) A (getMethod (.ref x) name pl) Q E s := by
 obtain ⟨od, J, hl⟩ := I.look
 exact PySem.W.method_fn X J (PySem.W.plainGet_of hg).1 (PySem.W.plainGet_of hg).2 hf (beq_iff_eq.mp ht) (by show (PySem.W.lookIn name od).map (·.isSome) = some false; rw [hl, hv]; rfl) h
theorem m1g {ns : List Str} {Q : Unit -> Shared -> Prop} (X : K.In s.heap) (I : m1f s.heap x dx C mA)
  (hs : PySem.W.findIn K (.ref C) "__setattr__" = some (some (.builtin "object.__setattr__"))) (hp : PySem.W.plainOver K C = true) (ht : PySem.W.takerIn K C name = some none) (hh : PySem.W.hasDictIn K C = true)
  (hw : PySem.Within mA ns) (hsz : ns.length <= sizeLine)
  (h : ∀ h', m1f h' x dx C (fun y => if y = name then some v else mA y) -> Heap.SameBut dx s.heap h' -> Q () { s with heap := h', toks := s.toks + 2 }) :
  wpAny (model prog w) A (setAttr (.ref x) name v) Q E s := by
 obtain ⟨od, J, hl⟩ := I.look
 refine PySem.W.set_plain X J hs (PySem.W.osa_open (s := { s with toks := s.toks + 1 }) (r := none) X J hp ht fun b => ?_)
 obtain ⟨cd, hc, hd'⟩ := PySem.W.any_some hh
 have hx : s.heap.get? x = some ⟨.ref C, some dx, .plain, #[]⟩ := I.obj
 refine wpAny_bind (wpAny_pure (wpAny_bind (wpAny_bind (wpAny_loadPart hx (wpAny_bind (PySem.W.Looks.here (s := { s with toks := s.toks + 1 }) (PySem.W.looks_clsIn X hc) ?_))))))
 rw [hd']
 refine wpAny_pure (a := some dx) (wpAny_bind (wpAny_pure (wpAny_bind ?_)))
 refine wpAny_nsSet1 (s := { s with toks := s.toks + 1 }) I.ns fun h' hn2 hs2 => ?_
 obtain ⟨oD, esD, epD, hoD, hdD, hcD⟩ := hn2.count (PySem.Within.cons name v hw)
 refine wpAny_bind (wpAny_lookBehind hoD (by rw [hdD]; exact pastItsLine_dict (Nat.le_trans hcD (by rw [List.length_cons]; omega))) ?_)
 exact wpAny_pure (h _ ⟨(hs2.2 _ (Ne.symm I.ne)).trans I.obj, hn2, I.ne⟩ hs2)
theorem l6x {R : Result -> Shared -> Prop} {vs : List Value} {kw : List (Str × Value)} (X : K.In s.heap) (hm : PySem.W.makesIn K C = true)
  (hi : PySem.W.findIn K (.ref C) "__init__" = some (some (.ref f))) (hf : PySem.W.typeIn K (.ref f) = some (.type "function"))
  (h : codeAny (model prog w) (A.under (.builtin "type.__call__" ⟨.ref C :: vs, kw⟩)) (.call (.ref f) ⟨.ref (s.heap.objs.size + 1) :: vs, kw⟩) (PySem.W.InitBack (s.heap.objs.size + 1) R)
   { s with heap := (s.heap.push PySem.W.emptyDict).push (PySem.W.instObj C s.heap.objs.size) }) :
  codeAny (model prog w) A (.call (.ref C) ⟨vs, kw⟩) R s := by
 obtain ⟨hh, g, d, t, os⟩ := s
 exact PySem.W.make_core (PySem.W.makes_of X hm) (PySem.W.looks_findIn X hi) (fun self => PySem.W.bind_fn X self hf) (.inl rfl) h
end
noncomputable def h0j (f : Str) (v : V) : List (Str × V) -> List (Str × V)
 | [] => [(f, v)]
 | (g, x) :: r => if g = f then (g, v) :: r else (g, x) :: h0j f v r
theorem h0k (f g : Str) (v : V) : ∀ fs : List (Str × V), (h0j f v fs).lookup g = if g = f then some v else fs.lookup g
 | [] => by
  show List.lookup g [(f, v)] = _
  by_cases h : g = f
  ·have hb : (g == f) = true := beq_iff_eq.mpr h
   simp only [List.lookup, hb, if_pos h]
  ·have hb : (g == f) = false := beq_eq_false_iff_ne.mpr h
   simp only [List.lookup, hb, if_neg h]
 | (k, x) :: r => by
  have ih := h0k f g v r
  rw [show h0j f v ((k, x) :: r) = (if k = f then (k, v) :: r else (k, x) :: h0j f v r) from rfl]
  by_cases hk : k = f
  ·rw [if_pos hk]
   by_cases h : g = k
   ·have hb : (g == k) = true := beq_iff_eq.mpr h
    simp only [List.lookup, hb, if_pos (h.trans hk)]
   ·have hb : (g == k) = false := beq_eq_false_iff_ne.mpr h
    simp only [List.lookup, hb, if_neg (fun e : g = f => h (e.trans hk.symm))]
  ·rw [if_neg hk]
   by_cases h : g = k
   ·have hb : (g == k) = true := beq_iff_eq.mpr h
    simp only [List.lookup, hb, if_neg (fun e : g = f => hk (h.symm.trans e))]
   ·have hb : (g == k) = false := beq_eq_false_iff_ne.mpr h
    simp only [List.lookup, hb]
    exact ih
theorem h0l (f : Str) (v : V) : ∀ fs : List (Str × V), f ∈ (h0j f v fs).map (·.1) /\ ∀ g, g ∈ fs.map (·.1) -> g ∈ (h0j f v fs).map (·.1)
 | [] => ⟨by simp [h0j], fun g h => by simp at h⟩
 | (k, x) :: r => by
  obtain ⟨i1, i2⟩ := h0l f v r
  rw [show h0j f v ((k, x) :: r) = (if k = f then (k, v) :: r else (k, x) :: h0j f v r) from rfl]
  by_cases hk : k = f
  ·rw [if_pos hk]
   subst hk
   exact ⟨by simp, fun g h => by simpa using h⟩
  ·rw [if_neg hk]
   refine ⟨?_, fun g h => ?_⟩
   ·rw [List.map_cons]
    exact List.mem_cons_of_mem _ i1
   ·rw [List.map_cons] at h ⊢
    rcases List.mem_cons.mp h with e | e
    ·exact List.mem_cons.mpr (.inl e)
    ·exact List.mem_cons_of_mem _ (i2 g e)
theorem h0m (f : Str) (v : V) : ∀ fs : List (Str × V), (h0j f v fs).length <= fs.length + 1
 | [] => by simp [h0j]
 | (k, x) :: r => by
  have ih := h0m f v r
  rw [show h0j f v ((k, x) :: r) = (if k = f then (k, v) :: r else (k, x) :: h0j f v r) from rfl]
  by_cases hk : k = f
  ·rw [if_pos hk, List.length_cons, List.length_cons]; omega
  ·rw [if_neg hk, List.length_cons, List.length_cons]; omega
theorem l6h.some_of {v : V} {o : Option Value} (r : l6h (some v) o) : ∃ u, o = some u /\ RelV v u := by
 cases o with
 | none => exact (show False from r).elim
 | some u => exact ⟨u, rfl, r⟩
theorem l6h.none_of {o : Option Value} (r : l6h none o) : o = none := by
 cases o with
 | none => rfl
 | some u => exact (show False from r).elim
theorem l2a {v : V} {u : Value} (r : RelV v u) : PySem.W.handedIn u = true := by
 cases v with
 | non => cases (show u = Value.none from r); rfl
 | bl b => cases (show u = Value.bool b from r); rfl
 | int i => obtain ⟨t, e⟩ := (show ∃ t, u = Value.int i t from r); cases e; rfl
 | str x => obtain ⟨t, e⟩ := (show ∃ t, u = Value.str x t from r); cases e; rfl
 | byt b => obtain ⟨t, e⟩ := (show ∃ t, u = Value.bytes b t from r); cases e; rfl
 | flt b => obtain ⟨t, e⟩ := (show ∃ t, u = Value.float b t from r); cases e; rfl
 | ref a => cases (show u = Value.ref a from r); rfl
 | ty n => cases (show u = Value.type n from r); rfl
section
variable {P : Program} {w : World} {H H' : Hp} {h h' : Heap} {a C dx : Addr} {fs fs' : List (Str × V)}
theorem i1y (hok : HOk P w H h) (e : H a = some (.ins C dx fs)) : ∃ mA, m1f h a dx C mA /\ (∀ f, l6h (fs.lookup f) (mA f)) /\ PySem.Within mA (fs.map (·.1)) /\ fs.length <= 1000 /\ H dx = some (.own a) := by
 obtain ⟨d, z, ne, ob, mA, n, r, q⟩ := (show c8w P w H h a (.ins C dx fs) from hok a _ e)
 exact ⟨mA, ⟨ob, n, ne⟩, r, q, z, d⟩
end
structure Cls (K : PySem.W.Frag) (C : Addr) : Prop where
 pg : PySem.W.plainGet K C Str.empty = true
 hd : PySem.W.hasDictIn K C = true
 po : PySem.W.plainOver K C = true
 sa : PySem.W.findIn K (.ref C) "__setattr__" = some (some (.builtin "object.__setattr__"))
theorem Cls.get {K : PySem.W.Frag} {C : Addr} (c : Cls K C) (f : Str) : PySem.W.plainGet K C f = true := c.pg
def a8n (K : PySem.W.Frag) (C : Addr) (f : Str) : Prop := PySem.W.findIn K (.ref C) f = some none
theorem a8n.taker {K : PySem.W.Frag} {C : Addr} {f : Str} (n : a8n K C f) : PySem.W.takerIn K C f = some none := by
 unfold PySem.W.takerIn
 rw [show PySem.W.findIn K (.ref C) f = some none from n]
 rfl
structure Con (K : PySem.W.Frag) (C : Addr) (f : Str) (v : V) (u : Value) : Prop where
 at_ : PySem.W.findIn K (.ref C) f = some (some u)
 rel : RelV v u
 get : PySem.W.specialIn K u "__get__" = some none
 cp : PySem.W.copiedNames.contains f = false
structure Meth (K : PySem.W.Frag) (C : Addr) (m : Str) (f : Addr) : Prop where
 at_ : PySem.W.findIn K (.ref C) m = some (some (.ref f))
 fn : PySem.W.isFn K (.ref f) = true
 kp : PySem.W.keepIn K (.ref f) = true
section
variable {X : Cx} {pins : List (Addr × Obj)} {σ : St} {H : Hp} {s : Shared} {a C dx : Addr} {fs : List (Str × V)} {f : Str} {v : V} {A : Around} {E : Value -> Shared -> Prop}
theorem k5n {b : Bool} {Q : Value -> Shared -> Prop} (I : Inv X pins σ H s) (e : H a = some (.ins C dx fs)) (c : Cls X.K C) (n : a8n X.K C f) (l : fs.lookup f = some v)
  (h : ∀ u s', Inv X pins σ H s' -> RelV v u -> Q u s') : wpAny (model X.prog X.w) A (getAttr (.ref a) f b) Q E s := by
 obtain ⟨mA, O, r, _, _, _⟩ := i1y I.hok e
 obtain ⟨u, hu, ru⟩ := l6h.some_of (v := v) (o := mA f) (by rw [<- l]; exact r f)
 exact get_map I.kIn O (c.get f) c.hd n hu (l2a ru) (h u _ (I.tok _) ru)
theorem i0g {m : Str} {g : Addr} {pl : Sem Bool} {Q : Value × List Value -> Shared -> Prop} (I : Inv X pins σ H s) (e : H a = some (.ins C dx fs)) (c : Cls X.K C) (k : Meth X.K C m g) (l : fs.lookup m = none)
  (h : Q (.ref g, [.ref a]) s) : wpAny (model X.prog X.w) A (getMethod (.ref a) m pl) Q E s := by
 obtain ⟨mA, O, r, _, _, _⟩ := i1y I.hok e
 have hn : mA m = none := l6h.none_of (by rw [<- l]; exact r m)
 exact l6w I.kIn O (c.get m) k.at_ k.fn hn h
theorem k5o {y : V} {u : Value} {Q : Unit -> Shared -> Prop} (I : Inv X pins σ H s) (e : H a = some (.ins C dx fs)) (c : Cls X.K C) (n : a8n X.K C f) (hl : fs.length < 1000) (ry : RelV y u)
  (h : ∀ s', Inv X pins σ (upd H a (.ins C dx (h0j f y fs))) s' -> Q () s') : wpAny (model X.prog X.w) A (setAttr (.ref a) f u) Q E s := by
 obtain ⟨mA, O, r, wi, _, ho⟩ := i1y I.hok e
 have hz : (fs.map (·.1)).length <= sizeLine := by rw [List.length_map, sizeLine_eq]; omega
 refine m1g I.kIn O c.sa c.po n.taker c.hd wi hz fun h' O' sb => h _ ?_
 have hd : ∃ o, h'.get? dx = some o := let ⟨o, _, _, e', _⟩ := O'.ns; ⟨o, e'⟩
 refine I.write (x := a) (e := dx) (by rw [e]; exact True.intro) (.inr ho) (fun b q hb z => (sb.2 b hb).trans z) hd ?_
 refine ⟨by rw [a4v O.ne]; exact ho, ?_, O.ne, O'.obj, _, O'.ns, fun g => ?_, fun g hg => ?_⟩
 ·have := h0m f y fs; omega
 ·show l6h ((h0j f y fs).lookup g) (if g = f then some u else mA g)
  rw [h0k]
  by_cases q : g = f
  ·rw [if_pos q, if_pos q]; exact ry
  ·rw [if_neg q, if_neg q]; exact r g
 ·by_cases q : g = f
  ·rw [q]; exact (h0l f y fs).1
  ·refine (h0l f y fs).2 g (wi g fun z => hg ?_)
   show (if g = f then some u else mA g) = none
   rw [if_neg q]; exact z
theorem Inv.made (I : Inv X pins σ H s) : Inv X pins σ (upd (upd H s.heap.objs.size (.own (s.heap.objs.size + 1))) (s.heap.objs.size + 1) (.ins C s.heap.objs.size []))
  { s with heap := (s.heap.push PySem.W.emptyDict).push (PySem.W.instObj C s.heap.objs.size) } := by
 have e1 : (s.heap.push PySem.W.emptyDict).get? s.heap.objs.size = some PySem.W.emptyDict := Heap.get?_push_size s.heap rfl
 have e2 : ((s.heap.push PySem.W.emptyDict).push (PySem.W.instObj C s.heap.objs.size)).get? (s.heap.objs.size + 1) = some (PySem.W.instObj C s.heap.objs.size) := by
  have := Heap.get?_push_size (s.heap.push PySem.W.emptyDict) (o := PySem.W.instObj C s.heap.objs.size) rfl
  rwa [Heap.size_push] at this
 have e3 : (s.heap.push PySem.W.emptyDict).Ns s.heap.objs.size (fun _ => none) := ⟨PySem.W.emptyDict, #[], _, e1, rfl, (fun e he => absurd he (by simp)), fun _ => rfl⟩
 have I1 := I.laid (a := s.heap.objs.size) (o := .own (s.heap.objs.size + 1)) (h' := s.heap.push PySem.W.emptyDict) (t' := s.toks) (fun b u q => Heap.get?_push_of_some _ q) (Nat.le_refl _) ⟨_, e1⟩
 refine I1.laid (a := s.heap.objs.size + 1) (o := .ins C s.heap.objs.size []) (t' := s.toks) (fun b u q => Heap.get?_push_of_some _ q) (Nat.le_of_eq (Heap.size_push _ _)) ?_
 have ne : s.heap.objs.size ≠ s.heap.objs.size + 1 := Nat.ne_of_lt (Nat.lt_succ_self _)
 refine ⟨by rw [a4v ne, a5l], Nat.zero_le _, ne, e2, fun _ => none, (Heap.Ns1.of_empty e3).at fun o q => Heap.get?_push_of_some _ q, fun _ => True.intro, fun y hy => absurd rfl hy⟩
theorem m1h {prog : Program} {w : World} {env : Env} {e : Expr} {f : Str} {pos : Pos} {s : Shared} {Q : Value -> Shared -> Prop} (hb : attributeBase e f env (eval e env) = eval e env)
  (h : wpAny (model prog w) A (eval e env) (fun o s₁ => wpAny (model prog w) A (getAttr o f true) Q E s₁) E s) : wpAny (model prog w) A (eval (.Attribute e f pos) env) Q E s :=
 Attribute_any_ h (by rw [arm_eval_Attribute, hb])
end
def n3r (K : PySem.W.Frag) (ta : TE) (f : Str) : TE := fun σ H Q => ta σ H fun x H1 => ∃ a C dx fs v, x = .ref a /\ H1 a = some (.ins C dx fs) /\ Cls K C /\ a8n K C f /\ fs.lookup f = some v /\ Q v H1
def n3s (X : Cx) (op : Operator) (rd : V -> V -> Hp -> VK -> Prop) : Prop :=
 ∀ (pins : List (Addr × Obj)) (s : Shared) (σ : St) (H : Hp) (x y : V) (u v : Value) (Q : VK), Inv X pins σ H s -> RelV x u -> RelV y v -> rd x y H Q -> wpAny (model X.prog X.w) X.A (inplaceOp op u v) (EP X pins σ Q) X.xe s
section
variable {X : Cx} {o e value : Expr} {f : Str} {pos pos' tpos : Pos} {ta tv : TE}
theorem m6e (he : PE X e ta) (hb : attributeBase e f X.env (eval e X.env) = eval e X.env) : PE X (.Attribute e f pos) (n3r X.K ta f) := by
 intro pins s σ H Q I h
 refine m1h hb (thn (he pins s σ H _ I h) fun u s1 ⟨x, H1, I1, rx, a, C, dx, fs, v, ex, ea, c, n, l, q⟩ => ?_)
 subst ex
 obtain rfl : u = Value.ref a := rx
 exact k5n I1 ea c n l fun u' s2 I2 ru => ⟨v, H1, I2, ru, q⟩
noncomputable def rAdd : V -> V -> Hp -> VK -> Prop := fun x y H Q => ∃ i j, x = .int i /\ y = .int j /\ Q (.int (i + j)) H
theorem m6f : n3s X .Add rAdd := by
 rintro pins s σ H x y u v Q I rx ry ⟨i, j, rfl, rfl, q⟩
 obtain ⟨t, rfl⟩ := (show ∃ t, u = Value.int i t from rx)
 obtain ⟨t', rfl⟩ := (show ∃ t', v = Value.int j t' from ry)
 exact PyProof.Rows.iadd_int ⟨.int (i + j), H, I.tok _, ⟨_, rfl⟩, q⟩
end
section
variable {X : Cx} {pins : List (Addr × Obj)} {σ : St} {H : Hp} {s : Shared} {A : Around} {E : Value -> Shared -> Prop} {Q : Value -> Shared -> Prop} {c : Value} {b : Bool}
inductive k5p (K : PySem.W.Frag) (H : Hp) : V -> Value -> Prop where
 | non : k5p K H .non (.type "NoneType")
 | bl (x : Bool) : k5p K H (.bl x) (.type "bool")
 | int (i : Int) : k5p K H (.int i) (.type "int")
 | str (x : Str) : k5p K H (.str x) (.type "str")
 | flt (x : UInt64) : k5p K H (.flt x) (.type "float")
 | lst {a : Addr} {xs : List V} (e : H a = some (.lst xs)) : k5p K H (.ref a) (.type "list")
 | frz {a : Addr} {o : Obj} {xs : List V} (e : H a = some (.frz o (.lst xs))) : k5p K H (.ref a) (.type "list")
 | tup {a : Addr} {xs : List V} (e : H a = some (.tup xs)) : k5p K H (.ref a) (.type "tuple")
 | dK {a : Addr} {kvs : List (Key × V)} (e : H a = some (.dK kvs)) : k5p K H (.ref a) (.type "dict")
 | dT {a : Addr} {kvs : List (List Key × V)} (e : H a = some (.dT kvs)) : k5p K H (.ref a) (.type "dict")
 | ins {a C dx : Addr} {fs : List (Str × V)} (e : H a = some (.ins C dx fs)) (cl : Cls K C) (ha : PySem.W.findIn K (.ref C) "__class__" = some (some (.builtin "object.__class__")))
   (hn : PySem.W.specialIn K (.builtin "object.__class__") "__get__" = some (some (.builtin "getset_descriptor.__get__"))) (htk : PySem.W.takesIn K (.builtin "object.__class__") = some true)
   (hm : PySem.W.mroIn K C (.type "object") = some true) : k5p K H (.ref a) (.ref C)
theorem l2b {x : V} {u t : Value} (I : Inv X pins σ H s) (rx : RelV x u) (ty : k5p X.K H x t) (e : PySem.W.kitOne X.K t c = some b) (h : ∀ tk, Q (.bool b) { s with toks := tk }) :
  wpAny (model X.prog X.w) A (call (.builtin "isinstance") [u, c]) Q E s := by
 cases ty with
 | non => cases (show u = Value.none from rx); exact PySem.W.kia_one PySem.W.kitx_none I.kIn True.intro e (fun z => nomatch z) h
 | bl y => cases (show u = Value.bool y from rx); exact PySem.W.kia_one PySem.W.kitx_bool I.kIn True.intro e (fun z => nomatch z) h
 | int i => obtain ⟨t, q⟩ := (show ∃ t, u = Value.int i t from rx); cases q; exact PySem.W.kia_one PySem.W.kitx_int I.kIn True.intro e (fun z => nomatch z) h
 | str y => obtain ⟨t, q⟩ := (show ∃ t, u = Value.str y t from rx); cases q; exact PySem.W.kia_one PySem.W.kitx_str I.kIn True.intro e (fun z => nomatch z) h
 | flt y => obtain ⟨t, q⟩ := (show ∃ t, u = Value.float y t from rx); cases q; exact PySem.W.kia_one PySem.W.kitx_float I.kIn True.intro e (fun z => nomatch z) h
 | @lst a xs ea =>
  cases (show u = Value.ref a from rx)
  obtain ⟨_, _, n, _, h1⟩ := (show c8w X.prog X.w H s.heap a (.lst xs) from I.hok a _ ea)
  exact PySem.W.kia_one PySem.W.kitx_list I.kIn ⟨_, h1, rfl⟩ e (fun z => nomatch z) h
 | @frz a ob xs ea =>
  cases (show u = Value.ref a from rx)
  obtain ⟨_, _, _, n, _, h1⟩ := (show c8w X.prog X.w H s.heap a (.frz ob (.lst xs)) from I.hok a _ ea)
  exact PySem.W.kia_one PySem.W.kitx_list I.kIn ⟨_, h1, rfl⟩ e (fun z => nomatch z) h
 | @tup a xs ea =>
  cases (show u = Value.ref a from rx)
  obtain ⟨_, _, _, p⟩ := (show c8w X.prog X.w H s.heap a (.tup xs) from I.hok a _ ea)
  obtain ⟨o, h1, h2, _⟩ := p
  exact PySem.W.kia_one PySem.W.kitx_tuple I.kIn ⟨o, h1, h2⟩ e (fun z => nomatch z) h
 | @dK a kvs ea =>
  cases (show u = Value.ref a from rx)
  obtain ⟨_, _, vs, _, p⟩ := (show c8w X.prog X.w H s.heap a (.dK kvs) from I.hok a _ ea)
  obtain ⟨o, es, ep, h1, h2, _⟩ := p
  exact PySem.W.kia_one PySem.W.kitx_dict I.kIn ⟨o, h1, h2.1⟩ e (fun z => nomatch z) h
 | @dT a kvs ea =>
  cases (show u = Value.ref a from rx)
  obtain ⟨_, _, xs, _, o, es, ep, h1, h2, _⟩ := (show c8w X.prog X.w H s.heap a (.dT kvs) from I.hok a _ ea)
  exact PySem.W.kia_one PySem.W.kitx_dict I.kIn ⟨o, h1, h2.1⟩ e (fun z => nomatch z) h
 | @ins a C dx fs ea cl ha hn htk hm =>
  cases (show u = Value.ref a from rx)
  obtain ⟨mA, O, _⟩ := i1y I.hok ea
  obtain ⟨od, J, _⟩ := O.look
  exact PySem.W.kia_one (PySem.W.kitx_own (cl.get _) cl.hd ha hn htk hm) I.kIn J e (fun z => nomatch z) h
end
end L2
namespace L2
open PySem PySem.Spec PyProof.Rows
structure a2q (k : Nat) (A : Around) : Prop where
 hd : A.handled = none
 dp : A.depth + 3 * k + 5 < recursionLimit
 un : A.units + 16 * k + 200 < cLine
theorem a2q.mono {j k : Nat} {A : Around} (r : a2q k A) (h : j <= k) : a2q j A := ⟨r.hd, by have := r.dp; omega, by have := r.un; omega⟩
theorem a2q.deeper {k : Nat} {A : Around} (r : a2q (k + 1) A) (env : Env) : a2q k (A.deeper env) :=
 ⟨r.hd, by have := r.dp; show A.depth + 1 + 3 * k + 5 < _; omega, by have := r.un; show A.units + 3 + 16 * k + 200 < _; omega⟩
theorem k5q {A : Around} {C : Addr} {us : List Value} {kw : List (Str × Value)} : (A.under (.builtin "type.__call__" ⟨.ref C :: us, kw⟩)).depth = A.depth + 1 := by
 first | rfl | simp [Around.under, Code.weight, Code.isCreation, Code.isGuard, Code.isCaller, Code.frames, Code.isFrame, guardIds]
theorem k5r {A : Around} {C : Addr} {us : List Value} {kw : List (Str × Value)} : (A.under (.builtin "type.__call__" ⟨.ref C :: us, kw⟩)).units = A.units + 1 := by
 first | rfl | simp [Around.under, Code.cUnits, Code.frames, Code.isFrame]
theorem a2q.make {k : Nat} {A : Around} (r : a2q (k + 1) A) (C : Addr) (us : List Value) (kw : List (Str × Value)) : a2q k (A.under (.builtin "type.__call__" ⟨.ref C :: us, kw⟩)) :=
 ⟨r.hd, by have := r.dp; rw [k5q]; omega, by have := r.un; rw [k5r]; omega⟩
theorem a2q.depth {k : Nat} {A : Around} (r : a2q k A) : A.depth < recursionLimit := by have := r.dp; omega
theorem a2q.units {k : Nat} {A : Around} (r : a2q k A) : A.units + 64 < cLine := by have := r.un; omega
def d7w : TA := fun _ H Q => Q [] H
def h6e (ta : TE) (tr : TA) : TA := fun σ H Q => ta σ H fun x H1 => tr σ H1 fun xs H2 => Q (x :: xs) H2
section
variable {X : Cx} {e : Expr} {es : List Expr} {te : TE} {t : TA} {pos : Pos}
theorem a0j : PA X [] d7w := fun _ _ _ _ H Q I h => Calls.spliced_nil ⟨[], H, I, .nil, h⟩
theorem a0g (ha : PE X e te) (hr : PA X es t) (hs : starEach (e :: es) X.env = (false, eval e X.env) :: starEach es X.env := by rfl) : PA X (e :: es) (h6e te t) := by
 intro pos pins s σ H Q I h
 rw [hs]
 show wpAny _ _ (spliced ((false, eval e X.env) :: backTo pos (starEach es X.env))) _ _ s
 refine Calls.spliced_cons (thn (ha pins s σ H _ I h) fun u s1 ⟨x, H1, I1, r1, q1⟩ => ?_)
 exact thn (hr pos pins s1 σ H1 _ I1 q1) fun us s2 ⟨xs, H2, I2, r2, q2⟩ => ⟨x :: xs, H2, I2, .cons r1 r2, q2⟩
end
noncomputable abbrev Sp := List V -> Hp -> VK -> XK -> Prop
noncomputable abbrev CXT := List Env -> Hp -> Shared -> XK -> Value -> Shared -> Prop
structure l9t (P : Program) (w : World) (K : PySem.W.Frag) (mg : Str -> Option Value) (base : Heap) (A : Around) (outer : List Env) (s : Shared) (H : Hp) : Prop where
 frames : A.frames = some outer
 mod : Mod K mg base
 bs : ∀ b o, base.get? b = some o -> s.heap.get? b = some o /\ H b = none
 bsz : base.objs.size <= s.heap.objs.size
 l1e : s.heap.FunFrames base outer
 frf : ∀ b ∈ frs outer, H b = none
 hok : HOk P w H s.heap
 bare : AllBare s.gens
def CE (outer : List Env) (P : Program) (w : World) (H : Hp) (s : Shared) (Q : VK) (u : Value) (s' : Shared) : Prop :=
 ∃ v H', s'.os = s.os /\ AllBare s'.gens /\ Un (frs outer) [] H H' s.heap s'.heap /\ HOk P w H' s'.heap /\ RelV v u /\ Q v H'
def CR (CX : CXT) (outer : List Env) (P : Program) (w : World) (H : Hp) (s : Shared) (Q : VK) (E : XK) (r : Result) (s' : Shared) : Prop :=
 match r with
 | .ok (.ret u) => CE outer P w H s Q u s'
 | .ok _ => False
 | .error e => CX outer H s E e s'
structure a1s (P : Program) (w : World) (K : PySem.W.Frag) (mg : Str -> Option Value) (base : Heap) (CX : CXT) (k : Nat) (f : Addr) (fd : FuncData) (ps : List Str) (sp : Sp) : Prop where
 len : ∀ vs H Q E, sp vs H Q E -> vs.length = ps.length
 run : ∀ (A : Around) (outer : List Env) (s : Shared) (H : Hp) (args : Args) (us : List Value) (vs : List V) (Q : VK) (E : XK), a2q k A -> l9t P w K mg base A outer s H -> BindsTo s fd args (ps.zip us) -> Vals vs us -> sp vs H Q E ->
  codeAny (model P w) A (.call (.ref f) args) (CR CX outer P w H s Q E) s
theorem l9t.make {P : Program} {w : World} {K : PySem.W.Frag} {mg : Str -> Option Value} {base : Heap} {A : Around} {outer : List Env} {s : Shared} {H : Hp} (e : l9t P w K mg base A outer s H) (C : Addr) (us : List Value) (kw : List (Str × Value)) :
  l9t P w K mg base (A.under (.builtin "type.__call__" ⟨.ref C :: us, kw⟩)) outer s H := ⟨by first | exact e.frames | (simpa [Around.under, Code.envs, Code.isFrame, pushEnvs] using e.frames), e.mod, e.bs, e.bsz, e.l1e, e.frf, e.hok, e.bare⟩
section
variable {X : Cx} {pins : List (Addr × Obj)} {σ : St} {H : Hp} {s s' : Shared}
theorem Inv.env0 (I : Inv X pins σ H s) : l9t X.prog X.w X.K X.mg X.base X.A X.stack s H :=
 ⟨I.ok.frames, I.ok.mod, I.bs, Nat.le_trans I.ok.bsz I.sz, I.stack, I.j6u, I.hok, I.bare⟩
theorem Inv.after {Q : VK} {u : Value} (I : Inv X pins σ H s) (h : CE X.stack X.prog X.w H s Q u s') : EP X pins σ Q u s' := by
 obtain ⟨v, H', os, bare, un, hok, r, q⟩ := h
 obtain ⟨hh, g, d, t, os'⟩ := s'
 obtain rfl : os' = s.os := os
 exact ⟨v, H', I.call (h' := hh) (g' := g) (d' := d) (t' := t) (ch := []) un hok bare (fun b z => absurd z (by simp)), r, q⟩
end
def h6f (sp : Sp) (dvs : List V) (E : XK) (t : TA) : TE := fun σ H Q => t σ H fun vs H1 => sp (vs ++ dvs) H1 Q E
def Binds (K : PySem.W.Frag) (fd : FuncData) (ps : List Str) (ds : List Value) : Prop :=
 ∀ (s : Shared) (us : List Value), K.In s.heap -> (us ++ ds).length = ps.length -> BindsTo s fd ⟨us, []⟩ (ps.zip (us ++ ds))
theorem Binds.all {K : PySem.W.Frag} {fd : FuncData} {ps : List Str} (h : ∀ us : List Value, us.length = ps.length -> bindArgs fd ⟨us, []⟩ = pure (ps.zip us)) : Binds K fd ps [] := fun s us _ hl => by
 rw [List.append_nil] at hl ⊢
 exact .of_eq (h us hl)
def Passes (CX : CXT) (X : Cx) (E : XK) : Prop := ∀ (pins : List (Addr × Obj)) (σ : St) (H : Hp) (s : Shared) (e : Value) (s' : Shared), Inv X pins σ H s -> CX X.stack H s E e s' -> X.xe e s'
section
variable {X : Cx} {CX : CXT} {k : Nat} {f C : Addr} {fd : FuncData} {ps : List Str} {sp : Sp} {dvs : List V} {ds : List Value} {E : XK} {x m : Str} {p pos apos : Pos} {e o : Expr} {es : List Expr} {ta : TE} {t : TA}
theorem k3z {pins : List (Addr × Obj)} {σ : St} {H : Hp} {s : Shared} {Q : VK} {us : List Value} {vs : List V} (F : a1s X.prog X.w X.K X.mg X.base CX k f fd ps sp) (hr : a2q k X.A) (hb : Binds X.K fd ps ds) (hd : Vals dvs ds) (hx : Passes CX X E)
  (I : Inv X pins σ H s) (r : Vals vs us) (h : sp (vs ++ dvs) H Q E) : wpAny (model X.prog X.w) X.A (call (.ref f) us) (EP X pins σ Q) X.xe s := by
 have r2 : Vals (vs ++ dvs) (us ++ ds) := r.append hd
 have hl : (us ++ ds).length = ps.length := by rw [<- r2.length]; exact F.len _ _ _ _ h
 refine wpAny_call (codeAny_mono (F.run X.A X.stack s H ⟨us, []⟩ (us ++ ds) (vs ++ dvs) Q E hr I.env0 (hb s us I.kIn hl) r2 h) fun r s' hq => ?_)
 cases r with
 | error e => exact hx pins σ H s e s' I hq
 | ok fl =>
  cases fl with
  | ret u => exact I.after hq
  | next => exact False.elim hq
  | brk => exact False.elim hq
  | cont => exact False.elim hq
theorem a0r (F : a1s X.prog X.w X.K X.mg X.base CX k f fd ps sp) (hr : a2q k X.A) (hg : Gl X x) (hm : X.mg x = some (.ref f)) (hk : PySem.W.keepIn X.K (.ref f) = true) (hb : Binds X.K fd ps ds) (hd : Vals dvs ds) (hx : Passes CX X E)
  (ha : PA X (e :: es) t) (hdb : (x == ("__debug__" : Str)) = false := by decide) (he : starEach (e :: es) X.env = (false, eval e X.env) :: starEach es X.env := by rfl) (hpl : (backTo pos (starEach es X.env)).any (·.1) = false := by rfl) :
  PE X (.Call (.Name x p) (e :: es) [] pos) (h6f sp dvs E t) := by
 intro pins s σ H Q I h
 refine wpAny_Call_Name_kw (j6v I hg hm ?_ hdb)
 refine PySem.W.callWith_K (h₀ := X.base) I.ok.mod.kin hk (thn (ha pos pins s σ H _ I h) fun us s1 ⟨vs, H1, I1, r, q⟩ => ⟨I1.kIn, ?_⟩) he hpl
 exact k3z F hr hb hd hx I1 r q
structure Mk (K : PySem.W.Frag) (C f : Addr) : Prop where
 makes : PySem.W.makesIn K C = true
 init : PySem.W.findIn K (.ref C) "__init__" = some (some (.ref f))
 fn : PySem.W.isFn K (.ref f) = true
 kp : PySem.W.keepIn K (.ref C) = true
theorem l6y {pins : List (Addr × Obj)} {σ : St} {H : Hp} {s : Shared} {Q : VK} {us : List Value} {vs : List V} (M : Mk X.K C f) (F : a1s X.prog X.w X.K X.mg X.base CX k f fd ps sp) (hr : a2q (k + 1) X.A) (hb : Binds X.K fd ps ds) (hd : Vals dvs ds)
  (hx : Passes CX X E) (I : Inv X pins σ H s) (r : Vals vs us)
  (h : ∀ x dx, H x = none -> H dx = none -> dx ≠ x -> sp (.ref x :: (vs ++ dvs)) (upd (upd H dx (.own x)) x (.ins C dx [])) (fun v H2 => v = .non /\ Q (.ref x) H2) E) :
  wpAny (model X.prog X.w) X.A (call (.ref C) us) (EP X pins σ Q) X.xe s := by
 have hq := h (s.heap.objs.size + 1) s.heap.objs.size (I.hok.fresh (Nat.le_succ _)) (I.hok.fresh (Nat.le_refl _)) (Nat.ne_of_lt (Nat.lt_succ_self _))
 have I2 := Inv.made (C := C) I
 have r2 : Vals (V.ref (s.heap.objs.size + 1) :: (vs ++ dvs)) (Value.ref (s.heap.objs.size + 1) :: (us ++ ds)) := .cons rfl (r.append hd)
 have hl : (Value.ref (s.heap.objs.size + 1) :: us ++ ds).length = ps.length := by
  have e := r2.length
  rw [F.len _ _ _ _ hq] at e
  exact e.symm
 refine wpAny_call (l6x (f := f) I.kIn M.makes M.init (beq_iff_eq.mp M.fn) (codeAny_mono (F.run _ X.stack _ _ ⟨Value.ref (s.heap.objs.size + 1) :: us, []⟩ (Value.ref (s.heap.objs.size + 1) :: (us ++ ds)) _ _ E (hr.make C us [])
  (I2.env0.make C us []) (hb _ (Value.ref (s.heap.objs.size + 1) :: us) I2.kIn hl) r2 hq) fun r s' hq' => ?_))
 cases r with
 | error e => exact hx pins σ _ _ e s' I2 hq'
 | ok fl =>
  cases fl with
  | ret u =>
   obtain ⟨v, H', I3, rv, ev, q3⟩ := I2.after hq'
   subst ev
   exact ⟨rv, ⟨V.ref (s.heap.objs.size + 1), H', I3, rfl, q3⟩⟩
  | next => exact False.elim hq'
  | brk => exact False.elim hq'
  | cont => exact False.elim hq'
end
def PK (X : Cx) (kws : List Keyword) (t : TA) : Prop :=
 ∀ (pos : Pos) (pins : List (Addr × Obj)) (s : Shared) (σ : St) (H : Hp) (Q : List V -> Hp -> Prop), Inv X pins σ H s -> t σ H Q -> wpAny (model X.prog X.w) X.A (evalAll ((backToKw pos (keywordEach kws X.env)).map (·.2))) (AP X pins σ Q) X.xe s
section
variable {X : Cx} {CX : CXT} {k : Nat} {f C : Addr} {fd : FuncData} {ps ks : List Str} {sp : Sp} {E : XK} {x m : Str} {p pos apos kpos : Pos} {e o : Expr} {es : List Expr} {kws : List Keyword} {te ta : TE} {t tk : TA} {nm : Option Str}
theorem m6g : PK X [] d7w := fun _ _ _ _ H Q I h => wpAny_evalAll_nil ⟨[], H, I, .nil, h⟩
theorem m1i (ha : PE X e te) (hr : PK X kws t) : PK X (⟨nm, e, kpos⟩ :: kws) (h6e te t) := by
 intro pos pins s σ H Q I h
 show wpAny _ _ (evalAll ((do let v <- eval e X.env; standAt pos; pure v) :: (backToKw pos (keywordEach kws X.env)).map (·.2))) _ _ s
 refine wpAny_evalAll_cons (wpAny_bind (thn (ha pins s σ H _ I h) fun u s1 ⟨x, H1, I1, r1, q1⟩ => wpAny_bind (wpAny_standAt (wpAny_pure ?_))))
 exact thn (hr pos pins s1 σ H1 _ I1 q1) fun us s2 ⟨xs, H2, I2, r2, q2⟩ => ⟨x :: xs, H2, I2, .cons r1 r2, q2⟩
structure n3t (K : PySem.W.Frag) (fd : FuncData) (ps ks : List Str) (g : List Value -> List Value -> List Value) (gV : List V -> List V -> List V) : Prop where
 to : ∀ (s : Shared) (us ws : List Value), K.In s.heap -> (g us ws).length = ps.length -> BindsTo s fd ⟨us, ks.zip ws⟩ (ps.zip (g us ws))
 rel : ∀ {vs : List V} {us : List Value} {zs : List V} {ws : List Value}, Vals vs us -> Vals zs ws -> Vals (gV vs zs) (g us ws)
variable {g : List Value -> List Value -> List Value} {gV : List V -> List V -> List V}
end
structure a0y (N P : List Str) (sc : Scope) : Prop where
 kind : sc.kind = .function
 co : sc.isCoroutine = false
 gen : sc.isGenerator = false
 nd : N.Nodup
 pre : N.take P.length = P
 par : ∀ x ∈ P, sc.names.lookup x = some .local \/ sc.names.lookup x = some .cell
 m6h : ∀ y ∈ sc.names, y.2 ≠ .free
theorem i9g {kindOf : Str -> Option NameKind} {x : Str} : ∀ {binds : List (Str × Value)} {m : Str -> Option Value}, (∀ v, (x, v) ∉ binds) -> bindL kindOf binds m x = m x
 | [], _, _ => rfl
 | (n, v) :: r, m, h => by
  unfold bindL
  rw [i9g fun w hw => h w (List.mem_cons_of_mem _ hw)]
  split
  ·have : x ≠ n := by rintro rfl; exact h v List.mem_cons_self
   simp [this]
  ·rfl
theorem i9h {kindOf : Str -> Option NameKind} {x : Str} : ∀ {binds : List (Str × Value)} {m : Str -> Option Value}, (∀ v, (x, v) ∉ binds) -> bindC kindOf binds m x = m x
 | [], _, _ => rfl
 | (n, v) :: r, m, h => by
  unfold bindC
  rw [i9h fun w hw => h w (List.mem_cons_of_mem _ hw)]
  split
  ·rfl
  ·have : x ≠ n := by rintro rfl; exact h v List.mem_cons_self
   simp [this]
theorem i9i {kindOf : Str -> Option NameKind} {x : Str} {v : Value} : ∀ {P : List Str} {vs : List Value} {i : Nat} {m : Str -> Option Value}, P.Nodup -> P[i]? = some x -> vs[i]? = some v -> kindOf x = some .local ->
  bindL kindOf (P.zip vs) m x = some v
 | [], _, _, _, _, h, _, _ => by simp at h
 | _ :: _, [], _, _, _, _, h, _ => by simp at h
 | p :: P, w :: vs, 0, m, nd, h1, h2, hk => by
  simp at h1 h2; subst h1; subst h2
  show bindL kindOf ((p, w) :: P.zip vs) m p = _
  unfold bindL
  rw [i9g fun v hv => (List.nodup_cons.mp nd).1 (List.of_mem_zip hv).1, if_pos hk]
  simp
 | p :: P, w :: vs, i + 1, m, nd, h1, h2, hk => by
  show bindL kindOf ((p, w) :: P.zip vs) m x = _
  unfold bindL
  exact i9i (i := i) (List.nodup_cons.mp nd).2 (by simpa using h1) (by simpa using h2) hk
theorem i9j {kindOf : Str -> Option NameKind} {x : Str} {v : Value} : ∀ {P : List Str} {vs : List Value} {i : Nat} {m : Str -> Option Value}, P.Nodup -> P[i]? = some x -> vs[i]? = some v -> kindOf x ≠ some .local ->
  bindC kindOf (P.zip vs) m x = some v
 | [], _, _, _, _, h, _, _ => by simp at h
 | _ :: _, [], _, _, _, _, h, _ => by simp at h
 | p :: P, w :: vs, 0, m, nd, h1, h2, hk => by
  simp at h1 h2; subst h1; subst h2
  show bindC kindOf ((p, w) :: P.zip vs) m p = _
  unfold bindC
  rw [i9h fun v hv => (List.nodup_cons.mp nd).1 (List.of_mem_zip hv).1, if_neg hk]
  simp
 | p :: P, w :: vs, i + 1, m, nd, h1, h2, hk => by
  show bindC kindOf ((p, w) :: P.zip vs) m x = _
  unfold bindC
  exact i9j (i := i) (List.nodup_cons.mp nd).2 (by simpa using h1) (by simpa using h2) hk
noncomputable def start (N : List Str) (vs : List V) : St := vs.map some ++ List.replicate (N.length - vs.length) none
def m1j (CX : CXT) (P : Program) (w : World) (K : PySem.W.Frag) (mg : Str -> Option Value) (base : Heap) (N : List Str) (qual : Str) (scope : Scope) (f : Addr) (cd : Value) (A : Around) (outer : List Env) (s : Shared) (H : Hp) (E : XK) : Cx where
 prog := P
 w := w
 K := K
 mg := mg
 base := base
 A := A.deeper (envOfC qual scope s.heap.objs.size f cd)
 N := N
 s₀ := s
 H₀ := H
 env := envOfC qual scope s.heap.objs.size f cd
 outer := outer
 stack := envOfC qual scope s.heap.objs.size f cd :: outer
 ex := []
 calm := true
 fn := fun _ => true
 pn := []
 xe := fun e s' => wpAny (model P w) (A.deeper (envOfC qual scope s.heap.objs.size f cd)) (leaving (envOfC qual scope s.heap.objs.size f cd) e) (fun _ s'' => CX outer H s E e s'') (fun e' s'' => CX outer H s E e' s'') s'
theorem k4a {sc : Scope} {n : Nat} {x : Str} (h : sc.names.lookup x = some .cell) : ∃ c, (cellsFrom n sc.names []).lookup x = some c := by
 have q := PySem.W.cellsFrom_some sc.names n [] (.inl h)
 exact Option.isSome_iff_exists.mp q
theorem l2c {CX : CXT} {P : Program} {w : World} {K : PySem.W.Frag} {mg : Str -> Option Value} {base : Heap} {N ps : List Str} {qual : Str} {scope : Scope} {f : Addr} {cd : Value} {A : Around} {outer : List Env} {s s1 : Shared} {H : Hp} {E : XK} {us : List Value} {vs : List V}
  (S : a0y N ps scope) (hd : A.handled = none) (e0 : l9t P w K mg base A outer s H) (hl : vs.length = ps.length) (r : Vals vs us)
  (x : InCallC s s.heap.objs.size (bindL (envOfC qual scope s.heap.objs.size f cd).kindOf (ps.zip us) fun _ => none) (cellsFrom (s.heap.objs.size + 1) scope.names []) (bindC (envOfC qual scope s.heap.objs.size f cd).kindOf (ps.zip us) fun _ => none) s1) :
  Inv (m1j CX P w K mg base N qual scope f cd A outer s H E) [] (start N vs) H s1 := by
 have hpl : ps.length <= N.length := by have := congrArg List.length S.pre; rw [List.length_take] at this; omega
 obtain ⟨h1, tk, rfl, hk⟩ := x.done
 have noA : ∀ b : Addr, b ∉ (m1j CX P w K mg base N qual scope f cd A outer s H E).ex := fun b z => absurd (show b ∈ ([] : List Addr) from z) (by simp)
 refine ⟨⟨e0.mod, S.kind, rfl, rfl, Nat.le_refl _, fun y z c h1 h2 => ?_, fun y hy => ?_, fun y c _ h => ?_, fun _ => hd, Around.frames_deeper e0.frames, .inr ⟨rfl, rfl⟩, fun b z => absurd z (noA b), e0.bs, e0.bsz, fun b _ _ => noA b, fun b z => absurd z (noA b), e0.l1e, e0.frf⟩,
  rfl, e0.bare, Un.kept hk, ⟨_, x.toInCall.ns, fun i y v h1 h2 h3 => ?_⟩, fun y c h => ⟨_, x.cell y c h⟩, e0.hok.fresh (Nat.le_refl _), fun y c h => ?_, fun p hp => absurd (show p ∈ ([] : List (Addr × Obj)) from hp) (by simp), e0.hok.kept hk, ?_⟩
 ·exact name_of_addr x.apart (PySem.mem_of_lookup h1) (PySem.mem_of_lookup h2)
 ·have hy : scope.names.lookup y = some .cell \/ scope.names.lookup y = some .free := hy
  rcases hy with hy | hy
  ·exact k4a hy
  ·exact absurd rfl (S.m6h _ (PySem.mem_of_lookup hy))
 ·exact Nat.le_of_lt (x.above y c (PySem.mem_of_lookup h))
 ·have hi : i < vs.length := by
   unfold start at h2
   by_cases hi : i < vs.length
   ·exact hi
   ·rw [List.getElem?_append_right (by simpa using hi)] at h2
    rw [List.getElem?_replicate] at h2
    split at h2 <;> cases h2
  have ha : vs[i]? = some v := by
   unfold start at h2
   rw [List.getElem?_append_left (by simpa using hi), List.getElem?_map] at h2
   cases e : vs[i]? with
   | none => rw [e] at h2; cases h2
   | some a => rw [e] at h2; cases h2; rfl
  obtain ⟨u, hu, rv⟩ := r.get ha
  have hp : ps[i]? = some y := by
   rw [<- S.pre, List.getElem?_take_of_lt (by omega)]; exact h1
  have ndP : ps.Nodup := by rw [<- S.pre]; exact S.nd.sublist (List.take_sublist _ _)
  refine ⟨u, rv, ?_⟩
  rcases S.par y (List.mem_of_getElem? hp) with k | k
  ·exact .inl ⟨k, i9i ndP hp hu k⟩
  ·obtain ⟨c, e⟩ := k4a (n := s.heap.objs.size + 1) k
   refine .inr ⟨.inl k, c, e, ?_⟩
   have q := x.cell y c e
   rw [i9j ndP hp hu (by show scope.names.lookup y ≠ _; rw [k]; decide)] at q
   exact q
 ·exact e0.hok.fresh (Nat.le_of_lt (x.above y c (PySem.mem_of_lookup h)))
 ·unfold start
  show _ = N.length
  rw [List.length_append, List.length_map, List.length_replicate]
  omega
theorem n0z {CX : CXT} {P : Program} {w : World} {K : PySem.W.Frag} {mg : Str -> Option Value} {base : Heap} {k : Nat} {f : Addr} {name qual : Str} {params : Arguments} {body : List Stmt} {scope : Scope} {dV kV doc pm cdv ct oc : Value} {an od : Option Addr}
  {osl : Array (Option Value)} {N ps : List Str} {sp : Sp} (lk : K.lookup f = some ⟨oc, od, .func (PySem.W.fnOf name qual params body scope dV kV doc pm an cdv ct), osl⟩) (hcd : PySem.W.codeIn K cdv qual = true) (S : a0y N ps scope)
  (len : ∀ vs H Q E, sp vs H Q E -> vs.length = ps.length)
  (hbody : ∀ (A : Around) (outer : List Env) (s : Shared) (H : Hp) (vs : List V) (Q : VK) (E : XK), a2q k (A.deeper (envOfC qual scope s.heap.objs.size f cdv)) -> sp vs H Q E ->
   ∃ t, PSs (m1j CX P w K mg base N qual scope f cdv A outer s H E) body t /\ t { nx := fun _ H' => Q .non H', rt := Q } (start N vs) H) :
  a1s P w K mg base CX (k + 1) f (PySem.W.fnOf name qual params body scope dV kV doc pm an cdv ct) ps sp := by
 refine ⟨len, fun A outer s H args us vs Q E hr e0 hb r hsp => ?_⟩
 have hl := len _ _ _ _ hsp
 have KX : K.In s.heap := e0.mod.kin.keeps fun b o e => (e0.bs b o e).1
 have lim : s.heap.NoLimit := e0.mod.nolimit.keeps fun b o e => (e0.bs b o e).1
 have hkind : ∀ y ∈ ps.zip us, scope.names.lookup y.1 = some .local \/ (scope.names.lookup y.1 = some .cell /\ ((cellsFrom (s.heap.objs.size + 1) scope.names []).lookup y.1).isSome = true) := fun ⟨n, v⟩ hy => by
  rcases S.par n (List.of_mem_zip hy).1 with q | q
  ·exact .inl q
  ·exact .inr ⟨q, PySem.W.cellsFrom_some _ _ _ (.inl q)⟩
 refine codeAny_call_function hr.depth (KX _ _ lk) rfl S.co S.gen rfl (PySem.W.codeRec_of KX hcd) (hb _ _ _ _ ?_)
 refine wpAny_newFunctionEnv_cells S.kind hkind fun env he s1 x => ?_
 subst he
 refine ⟨lim.keeps x.toInCall.keep, codeAny_func ?_⟩
 obtain ⟨t, ht, hq⟩ := hbody A outer s H vs Q E (hr.deeper _) hsp
 have I : Inv (m1j CX P w K mg base N qual scope f cdv A outer s H E) [] (start N vs) H s1 := l2c S hr.hd e0 hl r x
 refine wpAny_mono (ht [] s1 (start N vs) H _ I hq) (fun fl s' hs => ?_) fun e s' hs => hs
 have fin : ∀ {σ' : St} {H' : Hp} {v : V} {u : Value}, Inv (m1j CX P w K mg base N qual scope f cdv A outer s H E) [] σ' H' s' -> RelV v u -> Q v H' -> CE outer P w H s Q u s' :=
  fun {σ' H' v u} J rv q => ⟨v, H', J.os, J.bare, J.base, J.hok, rv, q⟩
 cases fl with
 | ret u =>
  obtain ⟨v, σ', H', J, rv, q⟩ := hs
  exact fin J rv q
 | next =>
  obtain ⟨σ', H', J, q⟩ := hs
  exact fin (v := V.non) (u := Value.none) J rfl q
 | brk =>
  obtain ⟨_, _, _, q⟩ := hs
  exact False.elim q
 | cont =>
  obtain ⟨_, _, _, q⟩ := hs
  exact False.elim q
end L2
namespace L2
open PySem PySem.Spec PyProof.Rows
section
variable {X : Cx} {x : Str} {p pos : Pos} {e : Expr} {es : List Expr} {t : TA} {id T : String} {r : List V -> Hp -> VK -> Prop}
def tCB (r : List V -> Hp -> VK -> Prop) (t : TA) : TE := fun σ H Q => t σ H fun vs H1 => r vs H1 Q
theorem a1p (hc : c0j X (.builtin id) r) (hg : Gl X x) (hm : X.mg x = none) (hv : bootBuiltins x = some (.builtin id)) (ha : PA X (e :: es) t) (hn : x ≠ "__name__" := by decide) (hdb : (x == ("__debug__" : Str)) = false := by decide)
  (he : starEach (e :: es) X.env = (false, eval e X.env) :: starEach es X.env := by rfl) (hpl : (backTo pos (starEach es X.env)).any (·.1) = false := by rfl) : PE X (.Call (.Name x p) (e :: es) [] pos) (tCB r t) := by
 intro pins s σ H Q I h
 refine wpAny_Call_Name_kw (h0h I hg hm hv ?_ hn hdb)
 exact PyProof.Rows.callWith_builtin1 (thn (ha pos pins s σ H _ I h) fun us s1 ⟨vs, H1, I1, r1, q1⟩ => hc pins s1 σ H1 vs us Q I1 r1 q1) he hpl
theorem a2k (hc : c0j X (.type T) r) (hg : Gl X x) (hm : X.mg x = none) (hv : bootBuiltins x = some (.type T)) (ha : PA X (e :: es) t) (hn : x ≠ "__name__" := by decide) (hdb : (x == ("__debug__" : Str)) = false := by decide)
  (he : starEach (e :: es) X.env = (false, eval e X.env) :: starEach es X.env := by rfl) (hpl : (backTo pos (starEach es X.env)).any (·.1) = false := by rfl) : PE X (.Call (.Name x p) (e :: es) [] pos) (tCB r t) := by
 intro pins s σ H Q I h
 refine wpAny_Call_Name_kw (h0h I hg hm hv ?_ hn hdb)
 exact PyProof.Rows.callWith_type1 (thn (ha pos pins s σ H _ I h) fun us s1 ⟨vs, H1, I1, r1, q1⟩ => hc pins s1 σ H1 vs us Q I1 r1 q1) he hpl
end
end L2
namespace HT
open PySem PyProof.Rows
section
open PySem.SeqAt
open PySem.AutoSeq1 (wpAny_loadPart')
open PySem.MeetsSeq PySem.MeetsSeq2 PySem.MeetsSeq3
end
section
variable {prog : Program} {w : World} {A : Around} {E : Value -> Shared -> Prop} {s : Shared}
noncomputable def sIx (n d : Nat) : Option Int -> Nat
 | none => d
 | some v => if v < 0 then (v + (n : Int)).toNat else min v.toNat n
theorem l6z (n d : Nat) : sIx n d none = d := rfl
theorem i2a (n d k : Nat) : sIx n d (some (k : Int)) = min k n := by
 show (if (k : Int) < 0 then ((k : Int) + (n : Int)).toNat else min (k : Int).toNat n) = min k n
 rw [if_neg (by omega), Int.toNat_natCast]
theorem m6i (n d : Nat) (hd : d <= n) (o : Option Int) : sIx n d o <= n := by
 cases o with
 | none => exact hd
 | some v =>
  show (if v < 0 then (v + (n : Int)).toNat else min v.toNat n) <= n
  by_cases hv : v < 0
  ·rw [if_pos hv]; omega
  ·rw [if_neg hv]; exact Nat.min_le_right _ _
theorem l2d (v : Int) (n d : Nat) : (if v < 0 then max (v + (n : Int)) 0 else min v (n : Int)) = ((sIx n d (some v) : Nat) : Int) := by
 show (if v < 0 then max (v + (n : Int)) 0 else min v (n : Int)) = (((if v < 0 then (v + (n : Int)).toNat else min v.toNat n) : Nat) : Int)
 by_cases hv : v < 0
 ·simp only [if_pos hv]; omega
 ·simp only [if_neg hv]; omega
theorem k5s (lo hi : Option Int) (n : Nat) : Builtin.Slice.sliceAdjust lo hi 1 (n : Int) = (((sIx n 0 lo : Nat) : Int), ((sIx n n hi : Nat) : Int)) := by
 have h1 : ¬ ((1 : Int) < 0) := by omega
 unfold Builtin.Slice.sliceAdjust
 simp only [h1, if_false]
 refine Prod.ext ?_ ?_
 ·cases lo with
  | none => rfl
  | some v => exact l2d v n 0
 ·cases hi with
  | none => rfl
  | some v => exact l2d v n n
theorem k5t (i j : Nat) : Builtin.Slice.slicePlaces (i : Int) (j : Int) 1 = j - i := by
 unfold Builtin.Slice.slicePlaces
 have h1 : (1 : Int) > 0 := by omega
 simp only [h1, if_true, Int.ediv_one]
 split <;> omega
theorem i0h {v : Value} {o : Option Int} {Q : Option Int -> Shared -> Prop} (p : IsPart v o) (h : Q o s) : wpAny (model prog w) A (Builtin.Slice.slicePartIndex v) Q E s := by
 cases p with
 | none => exact slicePart_none h
 | int i t => exact slicePart_int h
theorem g6n {sl : Addr} {vl vu : Value} {lo hi : Option Int} {n : Nat} {Q : Int × Int × Nat -> Shared -> Prop} (hs : s.heap.IsSliceOf sl vl vu .none) (pl : IsPart vl lo) (pu : IsPart vu hi)
  (h : Q (((sIx n 0 lo : Nat) : Int), 1, sIx n n hi - sIx n 0 lo) s) : wpAny (model prog w) A (Builtin.Slice.sliceApplied (.ref sl) (pure (n : Int))) Q E s := by
 obtain ⟨os, hos, hcs, hds⟩ := id hs
 unfold Builtin.Slice.sliceApplied Builtin.Slice.sliceFields
 refine wpAny_bind (wpAny_bind (wpAny_field hos hds (x := vl) rfl (wpAny_bind (wpAny_field hos hds (x := vu) rfl (wpAny_bind (wpAny_field hos hds (x := .none) rfl (wpAny_pure ?_)))))))
 refine wpAny_bind (slicePart_none ?_)
 show wpAny _ _ (if ((1 : Int) == 0) = true then _ else _) _ _ s
 rw [if_neg (by decide)]
 refine wpAny_bind (i0h pl (wpAny_bind (i0h pu (wpAny_bind (wpAny_pure ?_)))))
 show wpAny _ _ (match Builtin.Slice.sliceAdjust lo hi 1 (n : Int) with | (lo, hi) => pure (lo, (1 : Int), Builtin.Slice.slicePlaces lo hi 1)) _ _ s
 rw [k5s lo hi n]
 show wpAny _ _ (pure (((sIx n 0 lo : Nat) : Int), (1 : Int), Builtin.Slice.slicePlaces ((sIx n 0 lo : Nat) : Int) ((sIx n n hi : Nat) : Int) 1)) _ _ s
 rw [k5t]
 exact wpAny_pure h
theorem l7a (xs : Array Value) (i k : Nat) : ((List.range k).filterMap fun (m : Nat) => xs[((i : Int) + (m : Int) * 1).toNat]?).toArray = ((xs.toList.drop i).take k).toArray := by
 have e : (fun (m : Nat) => xs[((i : Int) + (m : Int) * 1).toNat]?) = fun m => xs[i + m]? := by
  funext m
  have : ((i : Int) + (m : Int) * 1).toNat = i + m := by omega
  rw [this]
 rw [e]
 have := pick_run xs i k
 rw [List.filterMap_map] at this
 have e2 : ((fun x => xs[x]?) ∘ fun x => i + x) = fun m => xs[i + m]? := rfl
 rw [e2] at this
 rw [this]
theorem g1u {t sl : Addr} {items : Array Value} {vl vu : Value} {lo hi : Option Int} {Q : Value -> Shared -> Prop} (ht : IsTup s.heap t items) (hs : s.heap.IsSliceOf sl vl vu .none) (pl : IsPart vl lo) (pu : IsPart vu hi)
  (hw : ¬ (sIx items.size 0 lo = 0 /\ sIx items.size items.size hi = items.size))
  (h : Q (.ref s.heap.objs.size) { s with heap := s.heap.push { cls := .type "tuple", data := .seq ((items.toList.drop (sIx items.size 0 lo)).take (sIx items.size items.size hi - sIx items.size 0 lo)).toArray } })
  (hsz : items.size <= sizeLine) : wpAny (model prog w) A (getItem (.ref t) (.ref sl)) Q E s := by
 have l7b : sizeOk (.seq ((items.toList.drop (sIx items.size 0 lo)).take (sIx items.size items.size hi - sIx items.size 0 lo)).toArray) := by
  show ((items.toList.drop (sIx items.size 0 lo)).take (sIx items.size items.size hi - sIx items.size 0 lo)).toArray.size <= sizeLine
  rw [List.size_toArray, List.length_take, List.length_drop, Array.length_toList]
  omega
 have hj : sIx items.size items.size hi <= items.size := m6i _ _ (Nat.le_refl _) hi
 obtain ⟨os, hos, hcs, hds⟩ := id hs
 have hTs : s.TypeIs (.ref sl) "slice" := ⟨os, hos, hcs⟩
 unfold getItem
 try with_reducible refine wpAny_holding ?_
 first | refine wpAny_bind (wpAny_pure ?_) | skip
 refine wpAny_bind (wpAny_sequenceKey ht.typeIs (by decide) ?_)
 refine wpAny_bind (wpAny_callSpecial?_slot (name := Str.ofString "__getitem__") ht.typeIs PyProof.Rows.slot_tuple_getitem
  (wpAny_call_entry PyProof.Rows.slot_tuple_getitem ht.typeIs entry_tuple_getitem ?_ (args_tuple_getitem _ _)))
 show wpAny _ _ (Builtin.Tuple.tupleItemsOf (.ref t) >>= _) _ _ s
 refine wpAny_bind (tupleItemsOf_ ht ?_)
 refine wpAny_bind (wpAny_typeOf hTs ?_)
 rw [if_pos (by decide)]
 refine wpAny_bind (g6n hs pl pu ?_)
 have hno : ¬ ((((sIx items.size 0 lo : Nat) : Int) == 0 && (1 : Int) == 1 && (sIx items.size items.size hi - sIx items.size 0 lo) == items.size) = true) := by
  intro q
  rw [Bool.and_eq_true, Bool.and_eq_true] at q
  have q1 : ((sIx items.size 0 lo : Nat) : Int) = 0 := eq_of_beq q.1.1
  have q2 : sIx items.size items.size hi - sIx items.size 0 lo = items.size := eq_of_beq q.2
  exact hw ⟨by omega, by omega⟩
 show wpAny _ _ (if (((sIx items.size 0 lo : Nat) : Int) == 0 && (1 : Int) == 1 && (sIx items.size items.size hi - sIx items.size 0 lo) == items.size) = true then _ else _) _ _ s
 rw [if_neg hno, l7a]
 first
  | exact wpAny_bind (m := Builtin.Tuple.tupleExact _) (wpAny_newObj_type (wpAny_pure ⟨_, rfl, wpAny_pure h⟩) l7b)
  | exact wpAny_bind (m := Builtin.Tuple.tupleExact _) (wpAny_newObj_type (wpAny_bind (wpAny_pure (wpAny_pure ⟨_, rfl, wpAny_pure h⟩))) l7b)
  | exact wpAny_bind (wpAny_bind (m := Builtin.Tuple.tupleExact _) (wpAny_newObj_type (wpAny_pure (wpAny_pure ⟨_, rfl, wpAny_pure h⟩)) l7b))
  | exact wpAny_bind (wpAny_bind (m := Builtin.Tuple.tupleExact _) (wpAny_newObj_type (wpAny_pure ⟨_, rfl, wpAny_pure h⟩) l7b))
end
end HT
namespace L2
open PySem PySem.Spec PyProof.Rows
noncomputable abbrev TO := St -> Hp -> (Option Int -> Hp -> Prop) -> Prop
def PO (X : Cx) (e : Option Expr) (t : TO) : Prop :=
 ∀ (pins : List (Addr × Obj)) (s : Shared) (σ : St) (H : Hp) (Q : Option Int -> Hp -> Prop), Inv X pins σ H s -> t σ H Q ->
  wpAny (model X.prog X.w) X.A (evalPart e X.env) (fun u s' => ∃ o H', Inv X pins σ H' s' /\ IsPart u o /\ Q o H') X.xe s
noncomputable def m1k : TO := fun _ H Q => Q none H
def m6j (t : TE) : TO := fun σ H Q => t σ H fun x H1 => ∃ i, x = .int i /\ Q (some i) H1
section
variable {X : Cx} {e : Expr} {te : TE} {lo hi : Option Expr} {tl th : TO} {pos p2 : Pos}
theorem b2z : PO X none m1k := by
 intro pins s σ H Q I h
 rw [evalPart_none]
 exact wpAny_pure ⟨none, H, I, .none, h⟩
theorem m1l (h : PE X e te) : PO X (some e) (m6j te) := by
 intro pins s σ H Q I hw
 rw [evalPart_some]
 refine thn (h pins s σ H _ I hw) fun u s1 ⟨x, H1, I1, r1, q1⟩ => ?_
 obtain ⟨i, rfl, q⟩ := q1
 obtain ⟨t, rfl⟩ := r1
 exact ⟨some i, H1, I1, .int i t, q⟩
def SlR (X : Cx) (r : V -> Option Int -> Option Int -> Hp -> VK -> Prop) : Prop :=
 ∀ (pins : List (Addr × Obj)) (s : Shared) (σ : St) (H : Hp) (x : V) (v vl vu : Value) (lo hi : Option Int) (sl : Addr) (Q : VK), Inv X pins σ H s -> RelV x v -> s.heap.IsSliceOf sl vl vu .none -> IsPart vl lo -> IsPart vu hi -> r x lo hi H Q ->
  ∃ T id, typeLookup (.type T) "__getitem__" = pure (some (.builtin id)) ∧ s.TypeIs v T ∧ wpAny (model X.prog X.w) X.A (getItem v (.ref sl)) (EP X pins σ Q) X.xe s
def tSl (r : V -> Option Int -> Option Int -> Hp -> VK -> Prop) (te : TE) (tl th : TO) : TE := fun σ H Q => te σ H fun x H1 => tl σ H1 fun l H2 => th σ H2 fun u H3 => r x l u H3 Q
theorem a5m {r : V -> Option Int -> Option Int -> Hp -> VK -> Prop} (hr : SlR X r) (he : PE X e te) (hl : PO X lo tl) (hu : PO X hi th) : PE X (.Subscript e (.Slice lo hi none p2) pos) (tSl r te tl th) := by
 intro pins s σ H Q I h
 refine Subscript_ (thn (he pins s σ H _ I h) fun v s1 ⟨x, H1, I1, r1, q1⟩ => ?_)
 refine wpAny_Slice (thn (hl pins s1 σ H1 _ I1 q1) fun vl s2 ⟨l, H2, I2, pl, q2⟩ => thn (hu pins s2 σ H2 _ I2 q2) fun vu s3 ⟨u, H3, I3, pu, q3⟩ => ?_)
 rw [evalPart_none]
 refine wpAny_pure ?_
 have I4 : Inv X pins σ H3 { s3 with heap := s3.heap.push { cls := .type "slice", data := .fields #[vl, vu, .none] } } := I3.kept (t' := s3.toks) fun b ob q => Heap.get?_push_of_some _ q
 obtain ⟨T, id, hT, ht, hg⟩ := hr pins { s3 with heap := s3.heap.push { cls := .type "slice", data := .fields #[vl, vu, .none] } } σ H3 x v vl vu l u s3.heap.objs.size Q I4 r1 (Heap.IsSliceOf.new ..) pl pu q3
 show wpAny (model X.prog X.w) X.A (subscriptTail e (.Slice lo hi none p2) v (.ref s3.heap.objs.size)) (EP X pins σ Q) X.xe { s3 with heap := s3.heap.push { cls := .type "slice", data := .fields #[vl, vu, .none] } }
 exact tail_any (ops := [.ref s3.heap.objs.size, v]) ht hT hg (by with_unfolding_all rfl)
noncomputable def g5j (xs : List V) (lo hi : Option Int) : List V := (xs.drop (HT.sIx xs.length 0 lo)).take (HT.sIx xs.length xs.length hi - HT.sIx xs.length 0 lo)
theorem h0n (xs : List V) (lo hi : Option Int) : (g5j xs lo hi).length <= xs.length := by
 unfold g5j
 rw [List.length_take, List.length_drop]
 omega
noncomputable def rSlT (K : PySem.W.Frag) : V -> Option Int -> Option Int -> Hp -> VK -> Prop := fun x lo hi H Q => ∃ a xs, x = .ref a /\ SqT K H a xs /\
 ¬ (HT.sIx xs.length 0 lo = 0 /\ HT.sIx xs.length xs.length hi = xs.length) /\ ∀ p, H p = none -> Q (.ref p) (upd H p (.tup (g5j xs lo hi)))
theorem m6k : SlR X (rSlT X.K) := by
 intro pins s σ H x v vl vu lo hi sl Q I rx hs pl pu h
 obtain ⟨a, xs, rfl, hx, hw, q⟩ := h
 cases rx
 obtain ⟨its, r, ht, hz⟩ := I.tuple hx
 have hlen : its.toArray.size = xs.length := by rw [List.size_toArray]; exact r.length.symm
 refine ⟨"tuple", _, PyProof.Rows.slot_tuple_getitem.lookup, ht.typeIs, ?_⟩
 refine HT.g1u ht hs pl pu (by rw [hlen]; exact hw) ?_ (by rw [hlen]; exact hz)
 rw [hlen]
 refine ⟨.ref s.heap.objs.size, _, I.laid (t' := s.toks) (o := .tup (g5j xs lo hi)) (fun b ob q => Heap.get?_push_of_some _ q) (Nat.le_refl _) ?_, rfl, q _ (I.hok.fresh (Nat.le_refl _))⟩
 exact ⟨Nat.le_trans (h0n xs lo hi) hz, _, (r.drop (HT.sIx xs.length 0 lo)).take (HT.sIx xs.length xs.length hi - HT.sIx xs.length 0 lo), IsTup.new _ _⟩
end
end L2
namespace L2
open PySem PySem.Spec PyProof.Rows
noncomputable def ixN (n : Nat) (i : Int) : Option Nat := if 0 <= i then (if i < n then some i.toNat else none) else if -(n : Int) <= i then some (i + n).toNat else none
noncomputable def atI {α : Type} (xs : List α) (i : Int) : Option α := (ixN xs.length i).bind fun j => xs[j]?
theorem m1m {n : Nat} {i : Int} {j : Nat} (h : ixN n i = some j) : seqIndex? i n = some j /\ j < n /\ -(n : Int) <= i /\ i < n := by
 unfold ixN at h
 by_cases h0 : 0 <= i
 ·rw [if_pos h0] at h
  by_cases h1 : i < n
  ·rw [if_pos h1] at h
   have e : i.toNat = j := Option.some.inj h
   exact ⟨by rw [seqIndex_of h0 h1, e], by omega, by omega, h1⟩
  ·rw [if_neg h1] at h; cases h
 ·rw [if_neg h0] at h
  by_cases h1 : -(n : Int) <= i
  ·rw [if_pos h1] at h
   have e : (i + n).toNat = j := Option.some.inj h
   exact ⟨by rw [seqIndex_neg (by omega) h1, e], by omega, h1, by omega⟩
  ·rw [if_neg h1] at h; cases h
theorem j6w {α : Type} {xs : List α} {i : Int} {v : α} (h : atI xs i = some v) : ∃ j, seqIndex? i xs.length = some j /\ xs[j]? = some v /\ j < xs.length /\ -(xs.length : Int) <= i /\ i < xs.length := by
 unfold atI at h
 cases e : ixN xs.length i with
 | none => rw [e] at h; cases h
 | some j =>
  rw [e] at h
  obtain ⟨h1, h2, h3, h4⟩ := m1m e
  exact ⟨j, h1, h, h2, h3, h4⟩
theorem d7z {α : Type} {xs : List α} {j : Nat} {v : α} (h : xs[j]? = some v) : atI xs (j : Int) = some v := by
 have hj : j < xs.length := (List.getElem?_eq_some_iff.mp h).1
 have e : ixN xs.length (j : Int) = some j := by
  unfold ixN
  rw [if_pos (by omega), if_pos (by omega)]; simp
 unfold atI; rw [e]; exact h
def m1n (b : Expr) : Prop := ∀ o i, subscripted b false o i = operate [o, i] (getItem o i)
def IxR (X : Cx) (r : R2) : Prop :=
 ∀ (value slice : Expr) (pins : List (Addr × Obj)) (s : Shared) (σ : St) (H : Hp) (x y : V) (v u : Value) (Q : VK), Inv X pins σ H s -> RelV x v -> RelV y u -> r x y H Q ->
  subscripted slice false v u = operate [v, u] (getItem v u) -> wpAny (model X.prog X.w) X.A (subscriptTail value slice v u) (EP X pins σ Q) X.xe s
def MtR (X : Cx) (id : String) (r : V -> List V -> Hp -> VK -> Prop) : Prop :=
 ∀ (pins : List (Addr × Obj)) (s : Shared) (σ : St) (H : Hp) (x : V) (xs : List V) (v : Value) (us : List Value) (Q : VK), Inv X pins σ H s -> RelV x v -> Vals xs us -> r x xs H Q ->
  wpAny (model X.prog X.w) X.A (call (.builtin id) (v :: us)) (EP X pins σ Q) X.xe s
section
variable {X : Cx} {a b : Expr} {ta tb : TE} {pos : Pos}
theorem a1o {r : R2} (hr : IxR X r) (ha : PE X a ta) (hb : PE X b tb) (hs : m1n b) : PE X (.Subscript a b pos) (tOp r ta tb) := by
 intro pins s σ H Q I h
 exact Subscript_ (n0s ha hb I h fun v u s2 x y H2 I2 rx ry q => hr a b pins s2 σ H2 x y v u Q I2 rx ry q (hs _ _))
def rIxL (K : PySem.W.Frag) : R2 := fun x y H Q => ∃ p xs i v, x = .ref p /\ y = .int i /\ SqL K H p xs /\ atI xs i = some v /\ Q v H
def rIxT (K : PySem.W.Frag) : R2 := fun x y H Q => ∃ p xs i v, x = .ref p /\ y = .int i /\ SqT K H p xs /\ atI xs i = some v /\ Q v H
def rIxS : R2 := fun x y H Q => ∃ z i c, x = .str z /\ y = .int i /\ z.length <= sizeLine /\ atI z.cps.toList i = some c /\ Q (.str ⟨#[c]⟩) H
theorem l2e : IxR X (rIxL X.K) := by
 intro value slice pins s σ H x y v u Q I rx ry h hs
 obtain ⟨p, xs, i, z, rfl, rfl, hq, he, q⟩ := h
 cases rx
 obtain ⟨t, rfl⟩ := ry
 obtain ⟨its, r, pl, hz⟩ := I.list hq
 obtain ⟨j, h1, h2, h3, h4, h5⟩ := j6w he
 obtain ⟨w, ew, rw'⟩ := r.get h2
 have hl := r.length
 have hn := i9d
 have fin : EP X pins σ Q w s := ⟨z, H, I, rw', q⟩
 by_cases h0 : 0 <= i
 ·have hj : i.toNat = j := by
   rw [seqIndex_of h0 h5] at h1
   exact Option.some.inj h1
  exact item_listR pl.isList h0 (by omega) (by rw [hj]; simpa using ew) fin hs
 ·have hj : (i + (its.toArray.size : Int)).toNat = j := by
   rw [seqIndex_neg (by omega) h4] at h1
   rw [List.size_toArray, <- hl]
   exact Option.some.inj h1
  exact subscriptTail_builtinR (x := w) pl.isList.typeIs slot_list_getitem.lookup
   (wpAny_getItem_list_neg (Q := fun r s' => r = w /\ EP X pins σ Q r s') pl.isList (by omega) (by rw [List.size_toArray] <;> omega) (by omega) (by rw [hj]; simpa using ew) ⟨rfl, fin⟩) hs
theorem m6l : IxR X (rIxT X.K) := by
 intro value slice pins s σ H x y v u Q I rx ry h hs
 obtain ⟨p, xs, i, z, rfl, rfl, hq, he, q⟩ := h
 cases rx
 obtain ⟨t, rfl⟩ := ry
 obtain ⟨its, r, pl, hz⟩ := I.tuple hq
 obtain ⟨j, h1, h2, h3, h4, h5⟩ := j6w he
 obtain ⟨w, ew, rw'⟩ := r.get h2
 have hl := r.length
 have hn := i9d
 have fin : EP X pins σ Q w s := ⟨z, H, I, rw', q⟩
 exact subscriptTail_builtinR (x := w) pl.typeIs slot_tuple_getitem.lookup
  (getItem_tuple (j := j) (Q := fun r s' => r = w /\ EP X pins σ Q r s') pl (by omega) (by omega) (by rw [List.size_toArray, <- hl]; exact h1) (by simpa using ew) ⟨rfl, fin⟩) hs
theorem m6m : IxR X rIxS := by
 intro value slice pins s σ H x y v u Q I rx ry h hs
 obtain ⟨z, i, c, rfl, rfl, hz, he, q⟩ := h
 obtain ⟨t, rfl⟩ := rx
 obtain ⟨t', rfl⟩ := ry
 obtain ⟨j, h1, h2, h3, h4, h5⟩ := j6w he
 have hl : z.cps.toList.length = z.length := by simp [Str.length]
 rw [hl] at h1 h4 h5
 have hn := i9d
 exact tail_any (typeIs_str s z t) slot_str_getitem.lookup (getItem_str (c := c) (by
  have e1 : decide (i < -(2 ^ 63 : Int)) = false := decide_eq_false (by omega)
  have e2 : decide (i ≥ 2 ^ 63) = false := decide_eq_false (by omega)
  rw [e1, e2, Bool.or_false]) (by rw [h1]; simpa using h2) ⟨.str ⟨#[c]⟩, H, I.tok _, ⟨_, rfl⟩, q⟩) hs
theorem Inv.lst {pins : List (Addr × Obj)} {σ : St} {H : Hp} {s : Shared} {p : Addr} {xs : List V} (I : Inv X pins σ H s) (h : H p = some (.lst xs)) :
  ∃ (its : List Value) (n : Nat), Vals xs its ∧ s.heap.get? p = some { cls := .type "list", data := .seq its.toArray n } ∧ xs.length ≤ sizeLine := by
 obtain ⟨z, its, n, r, e⟩ := I.hok p _ h
 exact ⟨its, n, r, e, z⟩
theorem i9k (lo hi : Option Int) (n : Nat) : (sliceBounds lo hi none n).1 = ((HT.sIx n 0 lo : Nat) : Int) /\ (sliceBounds lo hi none n).2.1 = ((HT.sIx n n hi : Nat) : Int) /\ (sliceBounds lo hi none n).2.2 = 1 := by
 refine ⟨?_, ?_, rfl⟩
 ·cases lo with
  | none => simp [sliceBounds, HT.sIx]
  | some i =>
   simp only [sliceBounds, HT.sIx, Option.getD_none, show (1 : Int) > 0 by decide, if_true]
   by_cases h : i < 0
   ·simp only [h, if_true] <;> omega
   ·simp only [h, if_false] <;> omega
 ·cases hi with
  | none => simp [sliceBounds, HT.sIx]
  | some i =>
   simp only [sliceBounds, HT.sIx, Option.getD_none, show (1 : Int) > 0 by decide, if_true]
   by_cases h : i < 0
   ·simp only [h, if_true] <;> omega
   ·simp only [h, if_false] <;> omega
theorem i2b (its : List Value) (lo hi : Option Int) : slicePick its.toArray lo hi none = ((its.drop (HT.sIx its.length 0 lo)).take (HT.sIx its.length its.length hi - HT.sIx its.length 0 lo)).toArray := by
 obtain ⟨h1, h2, h3⟩ := i9k lo hi its.toArray.size
 unfold slicePick
 rw [h1, h2, h3]
 simp only [sliceRange_one, pick_run, List.size_toArray] <;> rfl
noncomputable def rSlL (K : PySem.W.Frag) : V -> Option Int -> Option Int -> Hp -> VK -> Prop := fun x lo hi H Q => ∃ a xs, x = .ref a /\ SqL K H a xs /\ ∀ p, H p = none -> Q (.ref p) (upd H p (.lst (g5j xs lo hi)))
theorem j6x : SlR X (rSlL X.K) := by
 intro pins s σ H x v vl vu lo hi sl Q I rx hs pl pu h
 obtain ⟨a, xs, rfl, hx, q⟩ := h
 cases rx
 obtain ⟨its, r, ht, hz⟩ := I.list hx
 have hlen := r.length
 refine ⟨"list", _, slot_list_getitem.lookup, ht.isList.typeIs, ?_⟩
 refine wpAny_getItem_list_slice ht.isList hs pl pu .none (by simp) ?_ (by rw [List.size_toArray] <;> omega)
 rw [i2b, <- hlen]
 refine ⟨.ref s.heap.objs.size, _, I.laid (t' := s.toks) (o := .lst (g5j xs lo hi)) (fun b ob q => Heap.get?_push_of_some _ q) (Nat.le_refl _) ?_, rfl, q _ (I.hok.fresh (Nat.le_refl _))⟩
 exact ⟨Nat.le_trans (h0n xs lo hi) hz, _, 0, (r.drop (HT.sIx xs.length 0 lo)).take (HT.sIx xs.length xs.length hi - HT.sIx xs.length 0 lo), Heap.get?_push_size _ rfl⟩
noncomputable def f4h : V -> Bool
 | .non => true
 | .bl _ => true
 | .int _ => true
 | .str _ => true
 | _ => false
noncomputable def eqV : V -> V -> Bool
 | .non, .non => true
 | .bl a, .bl b => a == b
 | .bl a, .int b => (if a then 1 else 0) == b
 | .int a, .bl b => a == (if b then 1 else 0)
 | .int a, .int b => a == b
 | .str a, .str b => a == b
 | _, _ => false
theorem m6n {A : Around} {s : Shared} {y x : V} {u v : Value} (ry : RelV y u) (rx : RelV x v) (fy : f4h y = true) (fx : f4h x = true) : SeqAt.EqAt A s u v (eqV y x) := by
 cases y with
 | non =>
  cases ry
  cases x with
  | non => cases rx; exact SeqAt.EqAt.same _
  | bl b => cases rx; exact SeqAt.EqAt.none_bool b
  | int b => obtain ⟨t, rfl⟩ := rx; exact SeqAt.EqAt.none_int b t
  | str b => obtain ⟨t, rfl⟩ := rx; exact SeqAt.EqAt.none_str b t
  | _ => exact absurd (show false = true from fx) Bool.false_ne_true
 | bl a =>
  cases ry
  cases x with
  | non => cases rx; exact SeqAt.EqAt.bool_none a
  | bl b => cases rx; exact SeqAt.EqAt.bool_bool a b
  | int b => obtain ⟨t, rfl⟩ := rx; exact SeqAt.EqAt.bool_int a b t
  | str b => obtain ⟨t, rfl⟩ := rx; exact SeqAt.EqAt.bool_str a b t
  | _ => exact absurd (show false = true from fx) Bool.false_ne_true
 | int a =>
  obtain ⟨t', rfl⟩ := ry
  cases x with
  | non => cases rx; exact SeqAt.EqAt.int_none a t'
  | bl b => cases rx; exact SeqAt.EqAt.int_bool a t' b
  | int b => obtain ⟨t, rfl⟩ := rx; exact SeqAt.EqAt.int_int a t' b t
  | str b => obtain ⟨t, rfl⟩ := rx; exact SeqAt.EqAt.int_str a t' b t
  | _ => exact absurd (show false = true from fx) Bool.false_ne_true
 | str a =>
  obtain ⟨t', rfl⟩ := ry
  cases x with
  | non => cases rx; exact SeqAt.EqAt.str_none a t'
  | bl b => cases rx; exact SeqAt.EqAt.str_bool a t' b
  | int b => obtain ⟨t, rfl⟩ := rx; exact SeqAt.EqAt.str_int a t' b t
  | str b => obtain ⟨t, rfl⟩ := rx; exact SeqAt.EqAt.str_str a t' b t
  | _ => exact absurd (show false = true from fx) Bool.false_ne_true
 | _ => exact absurd (show false = true from fy) Bool.false_ne_true
noncomputable def eqU (x : V) (u : Value) : Bool := match u with
 | .none => eqV .non x
 | .bool b => eqV (.bl b) x
 | .int i _ => eqV (.int i) x
 | .str z _ => eqV (.str z) x
 | _ => false
theorem l9u {x y : V} {u : Value} (r : RelV y u) (f : f4h y = true) : eqU x u = eqV y x := by
 cases y with
 | non => cases r; rfl
 | bl b => cases r; rfl
 | int i => obtain ⟨t, rfl⟩ := r; rfl
 | str z => obtain ⟨t, rfl⟩ := r; rfl
 | _ => exact absurd (show false = true from f) Bool.false_ne_true
theorem j6y {x : V} : ∀ {xs : List V} {us : List Value}, Vals xs us -> xs.all f4h = true -> us.any (eqU x) = xs.any fun y => eqV y x
 | _, _, .nil, _ => rfl
 | y :: xs, u :: us, .cons r t, f => by
  rw [List.all_cons, Bool.and_eq_true] at f
  rw [List.any_cons, List.any_cons, l9u r f.1, j6y t f.2]
theorem i2c {A : Around} {s : Shared} {x : V} {v : Value} (rx : RelV x v) (fx : f4h x = true) : ∀ {xs : List V} {us : List Value}, Vals xs us -> xs.all f4h = true -> ∀ u ∈ us, SeqAt.EqAt A s u v (eqU x u)
 | _, _, .nil, _ => fun u hu => by cases hu
 | y :: xs, u :: us, .cons r t, f => fun u' hu => by
  rw [List.all_cons, Bool.and_eq_true] at f
  rcases List.mem_cons.mp hu with rfl | hu
  ·rw [l9u r f.1]; exact m6n r rx f.1 fx
  ·exact i2c rx fx t f.2 u' hu
noncomputable def inV (x : V) (xs : List V) : Bool := xs.any fun y => eqV y x
def rIn (K : PySem.W.Frag) (neg : Bool) : R2 := fun x y H Q => ∃ p xs, y = .ref p /\ (SqL K H p xs \/ SqT K H p xs) /\ f4h x = true /\ xs.all f4h = true /\ Q (.bl (if neg then !inV x xs else inV x xs)) H
theorem g5k : OpR X (compareOp .NotIn) (rIn X.K true) := by
 intro pins s σ H x y v u Q I rx ry h
 obtain ⟨p, xs, rfl, hq, fx, fs, q⟩ := h
 cases ry
 rcases hq with hq | hq
 ·obtain ⟨its, r, pl, hz⟩ := I.list hq
  refine SeqAt.notIn_listAt (eqU x) pl.isList (fun w hw => i2c rx fx r fs w (by simpa using hw)) ⟨.bl _, H, I, rfl, ?_⟩
  rw [show its.toArray.any (eqU x) = its.any (eqU x) by simp, j6y r fs]
  exact q
 ·obtain ⟨its, r, pl, hz⟩ := I.tuple hq
  refine SeqAt.notIn_tupleAt (eqU x) pl (fun w hw => i2c rx fx r fs w (by simpa using hw)) ⟨.bl _, H, I, rfl, ?_⟩
  rw [show its.toArray.any (eqU x) = its.any (eqU x) by simp, j6y r fs]
  exact q
theorem i9l : OpR X (compareOp .NotIn) (fun x y H Q => ∃ i j, x = .str i /\ y = .str j /\ Q (.bl (!(!(Builtin.Str.occurrences j i 0 j.length 1).isEmpty))) H) := by
 intro pins s σ H x y v u Q I rx ry h
 obtain ⟨i, j, rfl, rfl, q⟩ := h
 obtain ⟨t, rfl⟩ := rx
 obtain ⟨t', rfl⟩ := ry
 exact notIn_str ⟨.bl _, H, I, rfl, q⟩
theorem d8g : c0j X (.builtin "len") (fun xs H Q => ∃ p ys, xs = [.ref p] ∧ (SqL X.K H p ys ∨ SqT X.K H p ys) ∧ Q (.int ys.length) H) := by
 intro pins s σ H xs us Q I r h
 obtain ⟨p, ys, rfl, hq, q⟩ := h
 obtain ⟨u, rfl, rx⟩ := vals1 r
 cases rx
 have hn := i9d
 rcases hq with hq | hq
 ·obtain ⟨its, r', pl, hz⟩ := I.list hq
  have hlen := r'.length
  exact Calls.call_len_list pl.isList (by simp only [List.size_toArray] <;> omega) ⟨.int ys.length, H, I.tok _, ⟨s.toks + 1, by rw [List.size_toArray, hlen]⟩, q⟩
 ·obtain ⟨its, r', pl, hz⟩ := I.tuple hq
  have hlen := r'.length
  exact len_tuple pl (by simp only [List.size_toArray] <;> omega) ⟨.int ys.length, H, I.tok _, ⟨s.toks + 1, by rw [List.size_toArray, hlen]⟩, q⟩
theorem i9m : c0j X (.builtin "len") (fun xs H Q => ∃ z, xs = [.str z] ∧ z.length ≤ sizeLine ∧ Q (.int z.length) H) := by
 intro pins s σ H xs us Q I r h
 obtain ⟨z, rfl, hz, q⟩ := h
 obtain ⟨u, rfl, t, rfl⟩ := vals1 r
 have hn := i9d
 exact len_str (by omega) ⟨.int z.length, H, I.tok _, ⟨_, rfl⟩, q⟩
theorem i9n : c0j X (.type "list") (fun xs H Q => ∃ p ys, xs = [.ref p] ∧ (SqL X.K H p ys ∨ SqT X.K H p ys) ∧ ∀ l, H l = none → Q (.ref l) (upd H l (.lst ys))) := by
 intro pins s σ H xs us Q I r h
 obtain ⟨p, ys, rfl, hq, q⟩ := h
 obtain ⟨u, rfl, rx⟩ := vals1 r
 cases rx
 have fin : ∀ (its : List Value), Vals ys its -> ys.length <= sizeLine -> ∀ (h' : Heap) (c' : Nat), (∀ b o', s.heap.get? b = some o' -> h'.get? b = some o') ->
   h'.get? s.heap.objs.size = some { cls := .type "list", dict := none, data := .seq its.toArray c', slots := #[] } → EP X pins σ Q (.ref s.heap.objs.size) { s with heap := h' } := fun its r' hz h' c' kp e =>
  ⟨.ref s.heap.objs.size, _, I.laid (t' := s.toks) kp (Nat.le_refl _) (show c8w X.prog X.w _ h' _ (.lst ys) from ⟨hz, its, c', r', e⟩), rfl, q _ (I.hok.fresh (Nat.le_refl _))⟩
 rcases hq with hq | hq
 ·obtain ⟨its, r', pl, hz⟩ := I.list hq
  have hlen := r'.length
  obtain ⟨o, ho, hc, n, hd⟩ := pl.isList
  exact call_list_seq p (.inl rfl) ho hc hd (fun h' c' kp e => fin its r' hz h' c' kp e) (by simp only [List.size_toArray] <;> omega)
 ·obtain ⟨its, r', pl, hz⟩ := I.tuple hq
  have hlen := r'.length
  obtain ⟨o, ho, hc, n, hd⟩ := pl
  exact call_list_seq p (.inr rfl) ho hc hd (fun h' c' kp e => fin its r' hz h' c' kp e) (by simp only [List.size_toArray] <;> omega)
theorem i2d : c0j X (.type "tuple") (fun xs H Q => ∃ p ys, xs = [.ref p] ∧ ((SqL X.K H p ys ∧ ∀ l, H l = none → Q (.ref l) (upd H l (.tup ys))) ∨ (SqT X.K H p ys ∧ Q (.ref p) H))) := by
 intro pins s σ H xs us Q I r h
 obtain ⟨p, ys, rfl, h⟩ := h
 obtain ⟨u, rfl, rx⟩ := vals1 r
 cases rx
 rcases h with ⟨hq, q⟩ | ⟨hq, q⟩
 ·obtain ⟨its, r', pl, hz⟩ := I.list hq
  have hlen := r'.length
  refine call_tuple_list pl.isList (fun h' kp => ?_) (by simp only [List.size_toArray] <;> omega)
  have I1 : Inv X pins σ H { s with heap := h' } := I.kept (t' := s.toks) kp
  have I2 : Inv X pins σ (upd H h'.objs.size (.tup ys)) { s with heap := h'.push { cls := .type "tuple", data := .seq its.toArray } } :=
   I1.laid (t' := s.toks) (fun b o e => Heap.get?_push_of_some _ e) (Nat.le_refl _) (show c8w X.prog X.w _ _ _ (.tup ys) from ⟨hz, its, r', IsTup.new _ _⟩)
  exact ⟨.ref h'.objs.size, _, I2, rfl, q _ (I1.hok.fresh (Nat.le_refl _))⟩
 ·obtain ⟨its, r', pl, hz⟩ := I.tuple hq
  exact call_tuple_same pl ⟨.ref p, H, I, rfl, q⟩
def tyV (K : PySem.W.Frag) (T : String) (x : V) (H : Hp) : Prop := match x with
 | .str _ => T = "str"
 | .int _ => T = "int"
 | .ref p => (T = "list" ∧ ∃ xs, SqL K H p xs) ∨ (T = "tuple" ∧ ∃ o, K.lookup p = some o ∧ o.cls = .type "tuple" ∧ o.dict = none) ∨
   (T = "dict" ∧ ((∃ kvs, H p = some (.dK kvs)) ∨ ∃ kvs, H p = some (.dT kvs))) ∨ (T = "set" ∧ ∃ S n, H p = some (.set S n))
 | _ => False
theorem m6o {pins : List (Addr × Obj)} {σ : St} {H : Hp} {s : Shared} {T : String} {x : V} {v : Value} (I : Inv X pins σ H s) (r : RelV x v) (ty : tyV X.K T x H) :
  s.TypeIs v T /\ ∀ a, v = .ref a -> ∃ ob, s.heap.get? a = some ob /\ ob.dict = none := by
 cases x with
 | str z =>
  obtain ⟨t, rfl⟩ := r
  cases (show T = "str" from ty)
  exact ⟨typeIs_str s z t, fun _ e => nomatch e⟩
 | int i =>
  obtain ⟨t, rfl⟩ := r
  cases (show T = "int" from ty)
  exact ⟨typeIs_int s i t, fun _ e => nomatch e⟩
 | ref p =>
  cases r
  rcases ty with ⟨rfl, xs, hq⟩ | ⟨rfl, o, hk, hc, hd⟩ | ⟨rfl, hk⟩ | ⟨rfl, S, n, hk⟩
  ·obtain ⟨its, _, pl, _⟩ := I.list hq
   refine ⟨pl.isList.typeIs, fun a e => ?_⟩
   cases e
   obtain ⟨o, n, e, c, hd, _⟩ := pl
   exact ⟨o, e, hd⟩
  ·refine ⟨⟨o, I.kIn p o hk, hc⟩, fun a e => ?_⟩
   cases e
   exact ⟨o, I.kIn _ o hk, hd⟩
  ·have z : ∃ o, s.heap.get? p = some o /\ o.ExactDict := by
    rcases hk with ⟨kvs, hk⟩ | ⟨kvs, hk⟩
    ·obtain ⟨_, _, _, _, o, _, _, e, ex, _⟩ := I.hok p _ hk
     exact ⟨o, e, ex⟩
    ·obtain ⟨_, _, _, _, o, _, _, e, ex, _⟩ := I.hok p _ hk
     exact ⟨o, e, ex⟩
   obtain ⟨o, e, ex⟩ := z
   refine ⟨⟨o, e, ex.1⟩, fun a e2 => ?_⟩
   cases e2
   exact ⟨o, e, ex.2.1⟩
  ·obtain ⟨o, _, _, _, e, ex, _⟩ := I.hok p _ hk
   refine ⟨⟨o, e, ex.1⟩, fun a e2 => ?_⟩
   cases e2
   exact ⟨o, e, ex.2.1⟩
 | _ => exact False.elim ty
variable {o e : Expr} {es : List Expr} {to : TE} {t : TA} {name : Str} {apos cpos : Pos} {T id : String} {r : V -> List V -> Hp -> VK -> Prop}
/- xs.append(e), list.index on a module's tuple .. are MtR facts of 06m -/
end
end L2
namespace L2
open PySem PySem.Spec PyProof.Rows
def MtM (X : Cx) (id : String) (r : V -> List V -> Hp -> VK -> Prop) : Prop :=
 ∀ (pins : List (Addr × Obj)) (s : Shared) (σ : St) (H : Hp) (x : V) (xs : List V) (v : Value) (us : List Value) (Q : VK), Inv X pins σ H s -> RelV x v -> Vals xs us -> r x xs H Q ->
  wpAny (model X.prog X.w) X.A (call (.builtin id) (v :: us)) (EP X pins σ Q) X.xe s
theorem Vals.one : ∀ {x : V} {us : List Value}, Vals [x] us -> ∃ u, us = [u] /\ RelV x u
 | _, _, .cons r .nil => ⟨_, rfl, r⟩
theorem Vals.two : ∀ {x y : V} {us : List Value}, Vals [x, y] us -> ∃ u v, us = [u, v] /\ RelV x u /\ RelV y v
 | _, _, _, .cons r (.cons q .nil) => ⟨_, _, rfl, r, q⟩
theorem Vals.rep {xs : List V} {us : List Value} (h : Vals xs us) : ∀ k : Nat, Vals (List.replicate k xs).flatten (List.replicate k us).flatten
 | 0 => .nil
 | k + 1 => by
  rw [List.replicate_succ, List.replicate_succ, List.flatten_cons, List.flatten_cons]
  exact Vals.append h (Vals.rep h k)
theorem foldl_rep (its : List Value) : ∀ (k : Nat) (acc : List Value),
  List.foldl (fun x1 x2 => x1 ++ x2) acc.toArray (List.replicate k its.toArray) = (acc ++ (List.replicate k its).flatten).toArray
 | 0, acc => by simp
 | k + 1, acc => by
  have e : acc.toArray ++ its.toArray = (acc ++ its).toArray := by simp
  have e2 : (acc ++ its) ++ (List.replicate k its).flatten = acc ++ (List.replicate (k + 1) its).flatten := by
   rw [List.replicate_succ, List.flatten_cons, List.append_assoc]
  rw [<- e2, <- foldl_rep its k (acc ++ its), <- e, List.replicate_succ, List.foldl_cons]
section
variable {X : Cx} {pins : List (Addr × Obj)} {σ : St} {H : Hp} {s : Shared} {l b : Addr} {xs ys zs : List V}
theorem Inv.n3u {its its' : List Value} {n : Nat} {f : Array Value -> Array Value} {t' : Nat} (I : Inv X pins σ H s) (hH : H l = some (.lst xs))
  (e : s.heap.get? l = some { cls := .type "list", data := .seq its.toArray n }) (hf : f its.toArray = its'.toArray) (hv : Vals ys its') (hz : ys.length ≤ sizeLine) :
  Inv X pins σ (upd H l (.lst ys)) { s with heap := s.heap.update l (Obj.mapSeq f), toks := t' } := by
 have q := PySem.IsL.update e f
 rw [hf] at q
 refine I.write (x := l) (e := l) (by rw [hH]; exact trivial) (.inl rfl) (fun b' u hb hu => (Heap.get?_update_other s.heap (Obj.mapSeq f) (Ne.symm hb)).trans hu) ⟨_, q⟩ ?_
 exact ⟨hz, its', _, hv, q⟩
theorem Inv.n3v {its : List Value} {t' : Nat} (I : Inv X pins σ H s) (hv : Vals ys its) (hz : ys.length <= sizeLine) :
  Inv X pins σ (upd H s.heap.objs.size (.lst ys)) { s with heap := s.heap.push { cls := .type "list", data := .seq its.toArray }, toks := t' } :=
 I.laid (fun _ _ q => Heap.get?_push_of_some _ q) (Nat.le_refl _) ⟨hz, its, 0, hv, Heap.get?_push_size _ rfl⟩
theorem Inv.fresh (I : Inv X pins σ H s) : H s.heap.objs.size = none := I.hok.fresh (Nat.le_refl _)
theorem Inv.m6p (I : Inv X pins σ H s) (hH : H l = some (.lst xs)) : xs.length ≤ sizeLine ∧ ∃ (its : List Value) (n : Nat), Vals xs its ∧ xs.length = its.length ∧ s.heap.get? l = some { cls := .type "list", data := .seq its.toArray n } := by
 obtain ⟨z, its, n, r, e⟩ := I.hok l _ hH
 exact ⟨z, its, n, r, r.length, e⟩
theorem l7c {n : Nat} (h : n <= sizeLine) : Builtin.List.listTooLong n = false := by
 unfold Builtin.List.listTooLong
 exact decide_eq_false (by omega)
end
section
variable {X : Cx}
noncomputable def l2f : V -> List V -> Hp -> VK -> Prop := fun x vs H Q => ∃ l xs y, x = .ref l /\ vs = [y] /\ H l = some (.lst xs) /\ xs.length < sizeLine /\ Q .non (upd H l (.lst (xs ++ [y])))
theorem h0o : MtM X "list.append" l2f := by
 intro pins s σ H x vs v us Q I rx rv h
 obtain ⟨l, xs, y, rfl, rfl, hH, hz, q⟩ := h
 cases rx
 obtain ⟨u, rfl, ru⟩ := rv.one
 obtain ⟨z, its, n, r, hl, e⟩ := I.m6p hH
 refine call_meets F.slot_list_append ⟨_, e, rfl⟩ F.entry_list_append (F.args_list_append_2 _ _) (PySem.list_append l its.toArray n u (by rw [List.size_toArray]; omega)) ⟨e, ?_⟩
 refine ⟨.non, _, I.n3u (its' := its ++ [u]) hH e (by simp) (r.append (.cons ru .nil)) ?_, rfl, q⟩
 rw [List.length_append, List.length_singleton]
 omega
def rCat : R2 := fun x y H Q => ∃ l b xs zs, x = .ref l /\ y = .ref b /\ H l = some (.lst xs) /\ H b = some (.lst zs) /\ xs.length + zs.length <= sizeLine /\ ∀ p, H p = none -> Q (.ref p) (upd H p (.lst (xs ++ zs)))
theorem m6q : OpR X (binaryOp .Add) rCat := by
 intro pins s σ H x y v u Q I rx ry h
 obtain ⟨l, b, xs, zs, rfl, rfl, hH, hB, hz, q⟩ := h
 cases rx
 cases ry
 obtain ⟨z, its, n, r, hl, e⟩ := I.m6p hH
 obtain ⟨z2, its2, n2, r2, hl2, e2⟩ := I.m6p hB
 refine PySem.P.add_list e e2 ?_ (by rw [List.size_toArray, List.size_toArray]; omega)
 have ea : its.toArray ++ its2.toArray = (its ++ its2).toArray := by simp
 rw [ea]
 exact ⟨.ref _, _, I.n3v (t' := s.toks) (r.append r2) (by rw [List.length_append]; omega), rfl, q _ I.fresh⟩
def rRep : R2 := fun x y H Q => ∃ l k xs, x = .ref l /\ y = .int k /\ H l = some (.lst xs) /\ -(2 ^ 63) <= k /\ k < 2 ^ 63 /\ xs.length * k.toNat <= sizeLine /\
 ∀ p, H p = none -> Q (.ref p) (upd H p (.lst (List.replicate k.toNat xs).flatten))
theorem len_rep {α : Type} (xs : List α) (k : Nat) : (List.replicate k xs).flatten.length = k * xs.length := by
 induction k with
 | zero => simp
 | succ k ih => rw [List.replicate_succ, List.flatten_cons, List.length_append, ih, Nat.succ_mul, Nat.add_comm]
theorem m6r : OpR X (binaryOp .Mult) rRep := by
 intro pins s σ H x y v u Q I rx ry h
 obtain ⟨l, k, xs, rfl, rfl, hH, h1, h2, hz, q⟩ := h
 cases rx
 obtain ⟨t, rfl⟩ := ry
 obtain ⟨z, its, n, r, hl, e⟩ := I.m6p hH
 have hlen : its.toArray.size * k.toNat <= sizeLine := by rw [List.size_toArray, <- hl]; exact hz
 have hcap : ¬ its.toArray.size * k.toNat > (2 ^ 63 - 1) / 8 := by
  have : (sizeLine : Nat) <= (2 ^ 63 - 1) / 8 := by decide
  omega
 have hfit : ¬ (!Builtin.List.listFitsIndex k) = true := by
  rw [fitsIndex_both h1 h2]
  exact Bool.false_ne_true
 have n1a : ¬ Builtin.List.listTooLong (its.toArray.size * k.toNat) = true := by
  rw [l7c hlen]
  exact Bool.false_ne_true
 have hnew : List.foldl (fun x1 x2 => x1 ++ x2) #[] (List.replicate (if its.toArray.isEmpty = true then 0 else k.toNat) its.toArray) = (List.replicate k.toNat its).flatten.toArray := by
  have f0 : ∀ m : Nat, List.foldl (fun x1 x2 => x1 ++ x2) #[] (List.replicate m its.toArray) = (List.replicate m its).flatten.toArray := fun m => by
   have := foldl_rep its m []
   rw [List.nil_append] at this
   exact this
  rw [f0]
  cases its with
  | nil => simp
  | cons a r' => rw [if_neg (by simp)]
 refine wpAny_binaryOp_repeat_ref (T := "list") (U := "int") (by decide) ⟨_, e, rfl⟩ (fun s' => typeIs_int s' k t) noFill_list_mul F.fills_int_mul F.slot_int_rmul repeat_list F.slot_int_index.lookup
  (call_meets F.slot_int_rmul (typeIs_int s k t) F.entry_int_rmul (F.args_int_rmul_2 _ _) (int___rmul___int_list k t l its.toArray n)
   ⟨e, rfl, ⟨_, e, rfl⟩, call_meets F.slot_list_mul ⟨_, e, rfl⟩ F.entry_list_mul (F.args_list_mul_2 _ _) (AutoListH.list___mul___list_int_3 l its.toArray n k t hfit hcap n1a) ⟨e, ?_⟩⟩)
 rw [hnew]
 exact ⟨.ref _, _, I.n3v (t' := s.toks) (r.rep k.toNat) (by rw [len_rep, Nat.mul_comm]; exact hz), rfl, q _ I.fresh⟩
end
section
variable {prog : Program} {w : World} {A : Around} {E : Value -> Shared -> Prop} {s : Shared}
end
section
variable {X : Cx}
end
end L2
namespace Att
open PySem PySem.W PySem.Calls PyProof.Rows
theorem h0p {P : Params} {h : Heap} : ∀ (ns : List Int) (vs : List Value), WellAll P h vs (ns.map WData.int) -> IntsAre vs ns := by
 intro ns
 induction ns with
 | nil =>
  intro vs w
  rw [List.map_nil] at w
  cases w
  exact .nil
 | cons n ns ih =>
  intro vs w
  rw [List.map_cons] at w
  cases w with
  | cons a b =>
   cases a
   exact .cons _ _ (ih _ b)
theorem l2g {l : OpenLaw} {n : Nat} (hn : l.most = some n) {P : Params} {h : Heap} {args : List WData} {vals : List Value}
  (hpre : l.row.toRowW.claim.pre args = true) (hwl : WellAll P h vals args) :
  ∃ a vs ns, vals = [Value.ref a] ∧ args = [WData.list (ns.map WData.int)] ∧ h.get? a = some { cls := .type "list", data := .seq vs.toArray } ∧ IntsAre vs ns ∧ ns.length ≤ n := by
 have hsh : WShape.hasAll [] args [.list .int] = true := (pre_splitW hpre).1
 have hc : l.pre.holds [] { args := args } = true := (pre_splitW hpre).2
 obtain ⟨d, r, rfl, h1, h2⟩ := hasAllW_cons hsh
 obtain rfl := hasAllW_nil h2
 obtain ⟨xs, rfl, h3⟩ := hasW_list h1
 obtain ⟨ns, rfl⟩ := items_int h3
 have hlen : ns.length <= n := by
  unfold OpenLaw.pre at hc
  have h4 : (WTm.not (.lt (.lit (.int (n : Int))) (.len (.arg 0)))).holds [] { args := [.list (ns.map .int)] } = true := by
   have h4 := (holds_andW hc).1
   rw [hn] at h4
   exact h4
  have h5 := condW_of h4 (w_not (w_lt w_lit (w_len_list (w_arg rfl))))
  rw [List.length_map] at h5
  refine Nat.le_of_not_lt fun q => ?_
  have q' : (n : Int) < ((ns.length : Nat) : Int) := by omega
  first
   | (rw [decide_eq_true q'] at h5; exact absurd h5 (by decide))
   | (simp at h5; omega)
 cases hwl with
 | cons w1 w2 =>
  cases w2
  cases w1 with
  | list ho hall => exact ⟨_, _, ns, rfl, rfl, ho, h0p ns _ hall, hlen⟩
theorem l2h (l : OpenLaw) (args : List WData) : l.row.toRowW.claim.post args (.bool true) args = true :=
 postW_of (r := l.row.toRowW) (X := (true == true))
  (show WShape.has [] (.bool true) .bool = true by first | rfl | decide | simp [WShape.has, WShape.arms, WShape.armsAll])
  (show (WTm.eq .res (.lit (.bool true))).value [] { args := args, res := some (.bool true), after := args } = some (.bool (true == true)) from w_eq_bool (w_res rfl) w_lit) rfl
section
variable {prog : Program} {w : World} {A : Around} {E : Value -> Shared -> Prop} {s : Shared} {K : Frag}
end
end Att
namespace L2
open PySem PySem.Spec PyProof.Rows
theorem i9o : ∀ {vs : List Value} {ns : List Int}, IntsAre vs ns -> Vals (ns.map V.int) vs
 | _, _, .nil => .nil
 | _, _, .cons n t h => .cons ⟨t, rfl⟩ (i9o h)
def Only (H : Hp) : Prop := ∀ b, H b = none \/ ∃ o xs, H b = some (.frz o (.lst xs))
theorem l7d {P : Program} {w : World} {K : PySem.W.Frag} {mg mb : Str -> Option Value} {CX : CXT} {k : Nat} {fa a : Addr} {fd : FuncData} {x : Str} {sp : Sp} {s₁ : Shared} {vs : List Value} {ns : List Int}
  (KX : K.In s₁.heap) (hns : s₁.heap.Ns mainGlobals mg) (hb : s₁.heap.Ns builtinsNs mb) (hbb : ∀ x : Str, x ≠ "__name__" → mb x = bootBuiltins x) (hlim : s₁.heap.NoLimit) (hg : s₁.gens = #[])
  (ha : s₁.heap.get? a = some { cls := .type "list", data := .seq vs.toArray }) (hi : IntsAre vs ns) (hl : ns.length ≤ sizeLine) (hr : a2q k callerA)
  (F : ∀ base : Heap, K.In base -> base.Ns mainGlobals mg -> a1s P w K mg base CX k fa fd [x] sp) (hbind : ∀ (s : Shared) (u : Value), BindsTo s fd ⟨[u], []⟩ [(x, u)])
  (hsp : ∀ H : Hp, Only H -> SqL K H a (ns.map V.int) -> sp [.ref a] H (fun v _ => v = .bl true) fun _ _ _ => False)
  (hCX : ∀ H e s', CX [] H s₁ (fun _ _ _ => False) e s' -> False) :
  codeAny (model P w) callerA (.call (.ref fa) ⟨[.ref a], []⟩) (fun r s' => r = .ok (.ret (.bool true)) /\ OldK s₁.heap s'.heap /\ s'.os = s₁.os /\ AllBare s'.gens) s₁ := by
 have rv := i9o hi
 have lenV := hi.length
 -- from an abstract heap in which nothing but the script may be tracked
 have core : ∀ H : Hp, Only H -> SqL K H a (ns.map V.int) -> HOk P w H s₁.heap -> (∀ b, H b ≠ none -> b = a) -> (H a ≠ none -> K.lookup a = none) ->
   codeAny (model P w) callerA (.call (.ref fa) ⟨[.ref a], []⟩) (fun r s' => r = .ok (.ret (.bool true)) /\ OldK s₁.heap s'.heap /\ s'.os = s₁.os /\ AllBare s'.gens) s₁ := by
  intro H hO hS hok hA hK
  have l2i : ∀ {b : Addr} {o : Obj}, s₁.heap.get? b = some o -> H b = none -> (l6q s₁.heap H).get? b = some o := fun e n => l6r e n
  have noA : ∀ {b : Addr} {o : Obj} {es : Array DictEntry} {ep : Nat}, s₁.heap.get? b = some o -> o.data = .dict es ep -> H b = none := fun {b o es ep} e d => by
   cases q : H b with
   | none => rfl
   | some u =>
    have e' : b = a := hA b (by rw [q]; simp)
    subst e'
    rw [ha] at e; cases e
    have d' : Data.seq vs.toArray _ = Data.dict es ep := d
    cases d'
  have nsK : ∀ {b : Addr} {m : Str -> Option Value}, s₁.heap.Ns b m -> (l6q s₁.heap H).Ns b m := fun {b m} ⟨o, es, ep, e, d, r⟩ => ⟨o, es, ep, l2i e (noA e d), d, r⟩
  have hKb : K.In (l6q s₁.heap H) := fun b o e => l2i (KX b o e) (by
   cases q : H b with
   | none => rfl
   | some u =>
    have e' : b = a := hA b (by rw [q]; simp)
    subst e'
    rw [hK (by rw [q]; simp)] at e; cases e)
  have hM : Mod K mg (l6q s₁.heap H) := ⟨hKb, nsK hns, ⟨mb, nsK hb, hbb⟩, let ⟨mc, h1, h2⟩ := hlim; ⟨mc, nsK h1, h2⟩⟩
  have e0 : l9t P w K mg (l6q s₁.heap H) callerA [] s₁ H := ⟨rfl, hM, fun b o e => m1a e, Nat.le_of_eq (l1j _ _), trivial, fun b hb => absurd (show b ∈ ([] : List Addr) from hb) (by simp), hok, .of_eq hg⟩
  refine codeAny_mono ((F _ hKb (nsK hns)).run callerA [] s₁ H ⟨[.ref a], []⟩ [.ref a] [.ref a] _ _ hr e0 (hbind s₁ (.ref a)) (.cons rfl .nil) (hsp H hO hS)) fun r s' h => ?_
  cases r with
  | error e => exact (hCX H e s' h).elim
  | ok fl =>
   cases fl with
   | next => exact False.elim h
   | brk => exact False.elim h
   | cont => exact False.elim h
   | ret u =>
    obtain ⟨v, H', os, bare, un, hok', r', q⟩ := h
    have q' : v = .bl true := q
    subst q'
    obtain rfl : u = Value.bool true := r'
    refine ⟨rfl, OldK.of_keep fun b o e => ?_, os, bare⟩
    cases q : H b with
    | none => exact un.keep b o e q (by intro z; exact absurd (show b ∈ ([] : List Addr) from z) (by simp)) (by simp)
    | some u =>
     rcases hO b with z | ⟨ob, xs, z⟩
     ·rw [q] at z; cases z
     ·have z2 := un.l1d b ob _ z
      obtain ⟨e1, _⟩ := hok b _ z
      obtain ⟨e2, _⟩ := hok' b _ z2
      rw [e] at e1; cases e1
      exact e2
 cases hk : K.lookup a with
 | some o =>
  -- the script is one of the module's own objects
  have e := KX a o hk
  rw [ha] at e
  cases e
  refine core (fun _ => none) (fun _ => .inl rfl) (.inr ⟨_, vs.toArray, _, hk, rfl, rfl, rfl, by rw [List.size_toArray, lenV]; exact hl, by simpa using rv⟩) (fun b u z => by have z' : (none : Option HO) = some u := z; cases z') (fun b z => absurd rfl z) fun z => absurd rfl z
 | none =>
  refine core (fun b => if b = a then some (.frz { cls := .type "list", data := .seq vs.toArray } (.lst (ns.map V.int))) else none) (fun b => ?_) (.inl (.inr ⟨{ cls := .type "list", data := .seq vs.toArray }, if_pos rfl⟩)) (fun b u z => ?_) (fun b z => ?_) fun _ => hk
  ·by_cases hb : b = a
   ·exact .inr ⟨_, _, if_pos hb⟩
   ·exact .inl (if_neg hb)
  ·by_cases hb : b = a
   ·have z' := (if_pos hb).symm.trans z
    cases z'
    subst hb
    exact ⟨ha, by rw [List.length_map]; exact hl, vs, _, rv, ha⟩
   ·have z' := (if_neg hb).symm.trans z
    cases z'
  ·by_cases hb : b = a
   ·exact hb
   ·exact absurd (if_neg hb) z
end L2
namespace L2
open PySem PySem.Spec PyProof.Rows
end L2
/- THE LAST THEOREM (shape; LID, My.* are yours):
  My.Adr: a structure of the addresses that your layer names (classes, functions); My.Txt K t: a structure (Prop) of the equations over K;
  My.txt_mk : {K} {implicit addresses ..} (e1 : nsIn K mainGlobals "law" = some (some (.ref f))) (e2 : K.lookup f = some ⟨oc, od, .func (fnOf "law" "law" params body scope dV kV doc pm an cdv ct), sl⟩) (e3 : codeIn K cdv "law" = true) .. : ∃ t, My.Txt K t
(the tactic k_is has no namespace: write k_is) -/
namespace L2
open PySem PySem.Spec PyProof.Rows
noncomputable def inClass (s : Stmt) (j : Nat) : Stmt := match s with
 | .ClassDef _ _ _ body _ _ _ _ _ _ _ => body.getD j (.Pass ⟨0, 0, 0, 0⟩)
 | _ => .Pass ⟨0, 0, 0, 0⟩
noncomputable def a0v (s : Stmt) : Arguments := match s with
 | .FunctionDef _ a _ _ _ _ _ _ _ _ => a
 | _ => { posonlyargs := [], args := [], vararg := none, kwonlyargs := [], kw_defaults := [], kwarg := none, defaults := [] }
noncomputable def a0u (s : Stmt) : List Stmt := match s with
 | .FunctionDef _ _ b _ _ _ _ _ _ _ => b
 | _ => []
noncomputable def a0h (s : Stmt) : Scope := match s with
 | .FunctionDef _ _ _ _ _ _ sc _ _ _ => sc
 | _ => { kind := .function, names := [], isGenerator := false, isCoroutine := false }
noncomputable abbrev CX0 : CXT := fun _ _ _ _ _ _ => False
abbrev E0 : XK := fun _ _ _ => False
theorem a0p {X : Cx} : Passes CX0 X E0 := fun _ _ _ _ _ _ _ h => h.elim
structure Fun (K : PySem.W.Frag) (x qual : Str) (st : Stmt) (f : Addr) (fd : FuncData) : Prop where
 ex : ∃ (oc : Value) (od : Option Addr) (kV doc pm : Value) (an : Option Addr) (cdv ct : Value) (osl : Array (Option Value)),
  fd = PySem.W.fnOf x qual (a0v st) (a0u st) (a0h st) .none kV doc pm an cdv ct /\ K.lookup f = some ⟨oc, od, .func fd, osl⟩ /\ PySem.W.codeIn K cdv qual = true
 kp : PySem.W.keepIn K (.ref f) = true
section
variable {P : Program} {w : World} {K : PySem.W.Frag} {mg : Str -> Option Value} {base : Heap}
theorem Fun.ok {x qual : Str} {st : Stmt} {f : Addr} {fd : FuncData} {N ps : List Str} {k : Nat} {sp : Sp} (F : Fun K x qual st f fd) (S : a0y N ps (a0h st)) (len : ∀ vs H Q E, sp vs H Q E -> vs.length = ps.length)
  (hbody : ∀ (cdv : Value) (A : Around) (outer : List Env) (s : Shared) (H : Hp) (vs : List V) (Q : VK) (E : XK), a2q k (A.deeper (envOfC qual (a0h st) s.heap.objs.size f cdv)) -> sp vs H Q E ->
   ∃ t, PSs (m1j CX0 P w K mg base N qual (a0h st) f cdv A outer s H E).nox (a0u st) t /\ t { nx := fun _ H' => Q .non H', rt := Q } (start N vs) H) : a1s P w K mg base CX0 (k + 1) f fd ps sp := by
 obtain ⟨oc, od, kV, doc, pm, an, cdv, ct, osl, rfl, lk, hcd⟩ := F.ex
 refine n0z lk hcd S len fun A outer s H vs Q E hr hsp => ?_
 obtain ⟨t, h, q⟩ := hbody cdv A outer s H vs Q E hr hsp
 exact ⟨t, h.nox, q⟩
theorem Fun.binds {x qual : Str} {st : Stmt} {f : Addr} {fd : FuncData} {ps : List Str} (F : Fun K x qual st f fd)
  (h : ∀ (kV doc pm : Value) (an : Option Addr) (cdv ct : Value) (us : List Value), us.length = ps.length -> bindArgs (PySem.W.fnOf x qual (a0v st) (a0u st) (a0h st) .none kV doc pm an cdv ct) ⟨us, []⟩ = pure (ps.zip us)) : Binds K fd ps [] := by
 obtain ⟨oc, od, kV, doc, pm, an, cdv, ct, osl, rfl, lk, hcd⟩ := F.ex
 exact .all (h kV doc pm an cdv ct)
theorem a1r {x qual : Str} {st : Stmt} {f : Addr} {oc : Value} {od an : Option Addr} {osl : Array (Option Value)} {kV doc pm cdv ct : Value} (l : K.lookup f = some ⟨oc, od, .func (PySem.W.fnOf x qual (a0v st) (a0u st) (a0h st) .none kV doc pm an cdv ct), osl⟩)
  (c : PySem.W.codeIn K cdv qual = true) (k : PySem.W.keepIn K (.ref f) = true) : Fun K x qual st f (PySem.W.fnOf x qual (a0v st) (a0u st) (a0h st) .none kV doc pm an cdv ct) := ⟨⟨oc, od, kV, doc, pm, an, cdv, ct, osl, rfl, l, c⟩, k⟩
end
section
variable {X : Cx}
end
def Same (H H' : Hp) : Prop := ∀ b o, H b = some o -> H' b = some o
theorem Same.refl (H : Hp) : Same H H := fun _ _ h => h
theorem Same.trans {H H1 H2 : Hp} (a : Same H H1) (b : Same H1 H2) : Same H H2 := fun c o h => b c o (a c o h)
theorem Same.free {H H' : Hp} (e : Same H H') {l : Addr} (h : H' l = Option.none) : H l = Option.none := by
 cases q : H l with
 | none => rfl
 | some o =>
  rw [e l o q] at h
  cases h
theorem Same.seq {K : PySem.W.Frag} {H H' : Hp} {a : Addr} {xs : List V} (e : Same H H') (h : SqL K H a xs) : SqL K H' a xs := by
 rcases h with (h | ⟨o, h⟩) | h
 ·exact .inl (.inl (e _ _ h))
 ·exact .inl (.inr ⟨o, e _ _ h⟩)
 ·exact .inr h
end L2
namespace L2
open PySem PySem.Spec PyProof.Rows
section
variable {κ : Type} [DecidableEq κ]
noncomputable def l6j (kvs : List (κ × V)) (k : κ) : Option V := (kvs.find? fun kv => decide (kv.1 = k)).map (·.2)
noncomputable def putK (kvs : List (κ × V)) (k : κ) (v : V) : List (κ × V) :=
 if (kvs.any fun kv => decide (kv.1 = k)) = true then kvs.map (fun kv => if kv.1 = k then (kv.1, v) else kv) else kvs ++ [(k, v)]
noncomputable def dropK (kvs : List (κ × V)) (k : κ) : List (κ × V) := kvs.filter fun kv => decide (kv.1 ≠ k)
theorem l7e {p : κ × V} {r : List (κ × V)} {k : κ} (e : p.1 = k) : l6j (p :: r) k = some p.2 := by simp [l6j, List.find?_cons, e]
theorem l7f {p : κ × V} {r : List (κ × V)} {k : κ} (e : ¬ p.1 = k) : l6j (p :: r) k = l6j r k := by simp [l6j, List.find?_cons, e]
theorem l7g (k : κ) : ∀ kvs : List (κ × V), (kvs.any fun kv => decide (kv.1 = k)) = (l6j kvs k).isSome
 | [] => rfl
 | p :: r => by
  rw [List.any_cons]
  by_cases e : p.1 = k
  ·simp only [l7e e, decide_eq_true e, Bool.true_or, Option.isSome_some]
  ·rw [l7f e, decide_eq_false e, Bool.false_or]; exact l7g k r
theorem KV.any {kvs : List (κ × V)} {vs : List (κ × Value)} (r : KV kvs vs) (k : κ) : (kvs.any fun kv => decide (kv.1 = k)) = vs.any fun kv => decide (kv.1 = k) := by
 unfold KV at r
 induction r with
 | nil => rfl
 | cons h t ih => rw [List.any_cons, List.any_cons, ih, h.1]
theorem KV.repl {kvs : List (κ × V)} {vs : List (κ × Value)} (r : KV kvs vs) (k : κ) {y : V} {u : Value} (ry : RelV y u) :
  KV (kvs.map fun kv => if kv.1 = k then (kv.1, y) else kv) (vs.map fun kv => if kv.1 = k then (kv.1, u) else kv) := by
 unfold KV at r ⊢
 induction r with
 | nil => exact .nil
 | @cons p q ps qs h t ih =>
  rw [List.map_cons, List.map_cons]
  refine .cons ?_ ih
  obtain ⟨h1, h2⟩ := h
  by_cases e : p.1 = k
  ·rw [if_pos e, if_pos (h1.symm.trans e)]; exact ⟨h1, ry⟩
  ·rw [if_neg e, if_neg (fun z => e (h1.trans z))]; exact ⟨h1, h2⟩
theorem KV.length {kvs : List (κ × V)} {vs : List (κ × Value)} (r : KV kvs vs) : kvs.length = vs.length := Paired.length r
end
section
variable {P : Program} {w : World} {H : Hp} {h : Heap} {a : Addr}
end
def n0f (H : Hp) (a : Addr) (y : V) (r : Option V) : Prop :=
 (∃ kvs k, Rd H a (.dK kvs) /\ y = kV k /\ r = l6j kvs k) \/ ∃ kvs k b, Rd H a (.dT kvs) /\ y = .ref b /\ H b = some (.tup (k.map kV)) /\ r = l6j kvs k
def n0g (H : Hp) (a : Addr) (y v : V) (H' : Hp) : Prop :=
 (∃ kvs k, H a = some (.dK kvs) /\ y = kV k /\ kvs.length < sizeLine /\ H' = upd H a (.dK (putK kvs k v))) \/
 ∃ kvs k b, H a = some (.dT kvs) /\ y = .ref b /\ H b = some (.tup (k.map kV)) /\ kvs.length < sizeLine /\ H' = upd H a (.dT (putK kvs k v))
theorem n0f.k {H : Hp} {a : Addr} {kvs : List (Key × V)} {k : Key} (e : H a = some (.dK kvs)) : n0f H a (kV k) (l6j kvs k) := .inl ⟨kvs, k, .inl e, rfl, rfl⟩
theorem n0f.t {H : Hp} {a b : Addr} {kvs : List (List Key × V)} {k : List Key} (e : H a = some (.dT kvs)) (eb : H b = some (.tup (k.map kV))) : n0f H a (.ref b) (l6j kvs k) := .inr ⟨kvs, k, b, .inl e, rfl, eb, rfl⟩
theorem n0g.k {H : Hp} {a : Addr} {kvs : List (Key × V)} {k : Key} {v : V} (e : H a = some (.dK kvs)) (hl : kvs.length < sizeLine) : n0g H a (kV k) v (upd H a (.dK (putK kvs k v))) := .inl ⟨kvs, k, e, rfl, hl, rfl⟩
theorem n0g.t {H : Hp} {a b : Addr} {kvs : List (List Key × V)} {k : List Key} {v : V} (e : H a = some (.dT kvs)) (eb : H b = some (.tup (k.map kV))) (hl : kvs.length < sizeLine) :
  n0g H a (.ref b) v (upd H a (.dT (putK kvs k v))) := .inr ⟨kvs, k, b, e, rfl, eb, hl, rfl⟩
section
variable {X : Cx} {pins : List (Addr × Obj)} {σ : St} {H : Hp} {s : Shared} {a : Addr} {y v : V} {u r : Value} {o : Option V} {A : Around} {E : Value -> Shared -> Prop}
end
section
variable {X : Cx} {pins : List (Addr × Obj)} {σ : St} {H : Hp} {s : Shared} {a : Addr} {kvs : List (Key × V)} {k : Key} {u : Value} {A : Around} {E : Value -> Shared -> Prop}
end
section
variable {X : Cx} {o i e value : Expr} {pos pos' tpos : Pos} {td ty tv : TE}
end
section
variable {X : Cx} {pos : Pos}
end
structure M1 (X : Cx) (o : Expr) (m : Str) (apos : Pos) (e : Expr) (cpos : Pos) : Prop where
 base : attributeBase o m X.env (eval o X.env) = eval o X.env
 few : ((backTo cpos (starEach [e] X.env)).all (fun x => !x.1) && (backToKw cpos (keywordEach [] X.env)).all (fun x => x.1.isSome)
  && decide (([e] : List Expr).length + ([] : List Keyword).length + (if ([] : List Keyword).isEmpty then 0 else 1) < 30)) = true
 line : (apos.endLine == cpos.line) = true
 trees : backTo cpos (starEach [e] X.env) = [(false, eval e X.env)]
structure M2 (X : Cx) (o : Expr) (m : Str) (apos : Pos) (e f : Expr) (cpos : Pos) : Prop where
 base : attributeBase o m X.env (eval o X.env) = eval o X.env
 few : ((backTo cpos (starEach [e, f] X.env)).all (fun x => !x.1) && (backToKw cpos (keywordEach [] X.env)).all (fun x => x.1.isSome)
  && decide (([e, f] : List Expr).length + ([] : List Keyword).length + (if ([] : List Keyword).isEmpty then 0 else 1) < 30)) = true
 line : (apos.endLine == cpos.line) = true
 trees : backTo cpos (starEach [e, f] X.env) = [(false, eval e X.env), (false, eval f X.env)]
def IsD (H : Hp) (a : Addr) : Prop := (∃ kvs, Rd H a (.dK kvs)) \/ ∃ kvs, Rd H a (.dT kvs)
section
variable {X : Cx} {pins : List (Addr × Obj)} {σ : St} {H : Hp} {s : Shared} {a : Addr} {y d : V} {u r : Value} {o : Option V} {A : Around} {E : Value -> Shared -> Prop}
end
section
variable {X : Cx} {o e f : Expr} {apos cpos : Pos} {td ty tx : TE}
end
section
variable {X : Cx} {pins : List (Addr × Obj)} {σ : St} {H : Hp} {s : Shared} {a : Addr} {kvs : List (Key × V)} {A : Around} {E : Value -> Shared -> Prop}
end
section
variable {X : Cx} {pins : List (Addr × Obj)} {σ : St} {H : Hp} {s : Shared} {a : Addr} {y : V} {u : Value} {A : Around} {E : Value -> Shared -> Prop}
end
section
variable {X : Cx}
end
section
variable {κ : Type} [DecidableEq κ]
end
end L2
namespace L2
open PySem PySem.Spec PyProof.Rows
open PySem.Builtin.Int (intBits)
section
variable {X : Cx} {a b c : Expr} {ta tb tc : TE} {pos : Pos}
theorem m1o : OpR X (binaryOp .Mult) (rI IntMulOk fun i j => .int (i * j)) := opI fun _ _ _ _ _ _ _ hc q => mul_int q hc
def CFd (i j : Int) : Prop := j ≠ 0 /\ intBits j <= 9000
theorem j6z {j : Int} (h : j ≠ 0) (hb : intBits j <= 9000) : j.natAbs.log2 < 9000 := by
 have h1 := intBits_le_iff.mp hb
 exact (Nat.log2_lt (by omega)).mpr h1
theorem l7h : OpR X (binaryOp .FloorDiv) (rI CFd fun i j => .int (i.fdiv j)) := opI fun i j _ _ _ _ _ hc q =>
 floordiv_int hc.1 q (.inl (PyProof.noPylong_of_log2 (j6z hc.1 hc.2)))
inductive Ty where
 | non | bl | int | str | lst | tup | dct
 deriving DecidableEq
noncomputable def Ty.nm : Ty -> String
 | .non => "NoneType" | .bl => "bool" | .int => "int" | .str => "str" | .lst => "list" | .tup => "tuple" | .dct => "dict"
noncomputable def l9v (H : Hp) : V -> Option Ty
 | .non => some .non
 | .bl _ => some .bl
 | .int _ => some .int
 | .str _ => some .str
 | .ref a => match H a with
  | some (.lst _) => some .lst
  | some (.frz _ (.lst _)) => some .lst
  | some (.tup _) => some .tup
  | some (.dK _) => some .dct
  | some (.dT _) => some .dct
  | _ => none
 | _ => none
noncomputable def l9w (t T : Ty) : Bool := decide (t = T) || (decide (t = .bl) && decide (T = .int))
theorem m1p {K : PySem.W.Frag} {H : Hp} {x : V} {t : Ty} (h : l9v H x = some t) : k5p K H x (.type t.nm) := by
 cases x with
 | non => cases h; exact .non
 | bl b => cases h; exact .bl b
 | int i => cases h; exact .int i
 | str s => cases h; exact .str s
 | byt b => cases h
 | flt b => cases h
 | ty n => cases h
 | ref a =>
  unfold l9v at h
  cases e : H a with
  | none => simp [e] at h
  | some o =>
   cases o with
   | lst xs => simp [e] at h; subst h; exact .lst e
   | tup xs => simp [e] at h; subst h; exact .tup e
   | dK kvs => simp [e] at h; subst h; exact .dK e
   | dT kvs => simp [e] at h; subst h; exact .dT e
   | frz ob u =>
    cases u with
    | lst xs => simp [e] at h; subst h; exact .frz e
    | _ => simp [e] at h
   | _ => simp [e] at h
theorem m6s {K : PySem.W.Frag} (t T : Ty) : PySem.W.kitOne K (.type t.nm) (.type T.nm) = some (l9w t T) := by
 cases t <;> cases T <;> rfl
noncomputable def rIsT (T : Ty) : List V -> Hp -> VK -> Prop := fun xs H Q => match xs with
 | [x, .ty n] => n = T.nm /\ ∃ t, l9v H x = some t /\ Q (.bl (l9w t T)) H
 | _ => False
theorem b9j (T : Ty) : c0j X (.builtin "isinstance") (rIsT T) := by
 intro pins s σ H xs us Q I r h
 match xs, r, h with
 | [x, .ty n], r, h =>
  obtain ⟨rfl, t, ht, q⟩ := h
  obtain ⟨u, v, rfl, r1, r2⟩ := vals2 r
  cases (show v = Value.type T.nm from r2)
  exact l2b I r1 (m1p ht) (m6s t T) fun tk => ⟨.bl _, H, I.tok tk, rfl, q⟩
mutual
inductive i8y (K : PySem.W.Frag) (H : Hp) : V -> PyData -> Prop
 | non : i8y K H .non .none
 | bl (b : Bool) : i8y K H (.bl b) (.bool b)
 | int (i : Int) : i8y K H (.int i) (.int i)
 | str (x : Str) : i8y K H (.str x) (.str x)
 | lst {a : Addr} {xs : List V} {ds : List PyData} : SqL K H a xs -> d8h K H xs ds -> i8y K H (.ref a) (.list ds)
 | tup {a : Addr} {xs : List V} {ds : List PyData} : SqT K H a xs -> d8h K H xs ds -> i8y K H (.ref a) (.tuple ds)
inductive d8h (K : PySem.W.Frag) (H : Hp) : List V -> List PyData -> Prop
 | nil : d8h K H [] []
 | cons {x : V} {xs : List V} {d : PyData} {ds : List PyData} : i8y K H x d -> d8h K H xs ds -> d8h K H (x :: xs) (d :: ds)
end
section
variable {pins : List (Addr × Obj)} {σ : St} {H : Hp} {s : Shared}
mutual
theorem Inv.reads (I : Inv X pins σ H s) : ∀ {v : V} {d : PyData} {u : Value}, i8y X.K H v d -> RelV v u -> ∃ as, Reads s.heap u d as
 | _, _, _, .non, r => by cases (show _ = Value.none from r); exact ⟨_, .none⟩
 | _, _, _, .bl b, r => by cases (show _ = Value.bool b from r); exact ⟨_, .bool b⟩
 | _, _, _, .int i, r => by obtain ⟨t, rfl⟩ := r; exact ⟨_, .int i t⟩
 | _, _, _, .str x, r => by obtain ⟨t, rfl⟩ := r; exact ⟨_, .str x t⟩
 | _, _, _, .lst (a := a) hs ha, r => by
  cases (show _ = Value.ref a from r)
  obtain ⟨its, rv, ⟨o, n, e, c, _, dd⟩, _⟩ := I.list hs
  obtain ⟨as, q⟩ := Inv.readsAll I ha rv
  exact ⟨_, .list e c dd (by simpa using q)⟩
 | _, _, _, .tup (a := a) hs ha, r => by
  cases (show _ = Value.ref a from r)
  obtain ⟨its, rv, ⟨o, e, c, n, dd⟩, _⟩ := I.tuple hs
  obtain ⟨as, q⟩ := Inv.readsAll I ha rv
  exact ⟨_, .tuple e c dd (by simpa using q)⟩
theorem Inv.readsAll (I : Inv X pins σ H s) : ∀ {vs : List V} {ds : List PyData} {us : List Value}, d8h X.K H vs ds -> Vals vs us -> ∃ as, ReadsAll s.heap us ds as
 | _, _, _, .nil, .nil => ⟨_, .nil⟩
 | _, _, _, .cons h t, .cons r q => by
  obtain ⟨as, x⟩ := Inv.reads I h r
  obtain ⟨bs, y⟩ := Inv.readsAll I t q
  exact ⟨_, .cons x y⟩
end
end
def n0h (K : PySem.W.Frag) : R2 := fun x y H Q => ∃ d e, i8y K H x d /\ i8y K H y e /\ SeqAt.shaped d = true /\ SeqAt.shaped e = true /\ Q (.bl (PyData.eqv d e)) H
def m6t (K : PySem.W.Frag) : R2 := fun x y H Q => ∃ d e, i8y K H x d /\ i8y K H y e /\ SeqAt.shaped d = true /\ SeqAt.shaped e = true /\ Q (.bl (!PyData.eqv d e)) H
theorem m6u (hu : X.A.units + 64 < cLine) : OpR X (compareOp .Eq) (n0h X.K) := by
 intro pins s σ H x y v u Q I rx ry h
 obtain ⟨d, e, hd, he, sd, se, q⟩ := h
 obtain ⟨as, ra⟩ := I.reads hd rx
 obtain ⟨bs, rb⟩ := I.reads he ry
 exact eq_dataH ra rb sd se hu ⟨.bl _, H, I, rfl, q⟩
theorem m6v (hu : X.A.units + 64 < cLine) : OpR X (compareOp .NotEq) (m6t X.K) := by
 intro pins s σ H x y v u Q I rx ry h
 obtain ⟨d, e, hd, he, sd, se, q⟩ := h
 obtain ⟨as, ra⟩ := I.reads hd rx
 obtain ⟨bs, rb⟩ := I.reads he ry
 exact ne_dataH ra rb sd se hu ⟨.bl _, H, I, rfl, q⟩
end
noncomputable def Itr3 (lo c : Int) (n : Nat) : It := ⟨fun i _ => i < n, fun i H x H' => H' = H /\ x = .int (lo + i * c), fun i _ => n <= i⟩
noncomputable def rngN (lo hi c : Int) : Nat := (Builtin.Range.rangeSize lo hi c).toNat
section
variable {X : Cx} {tg : Expr}
end
def m6w (J : It) (g : TG) (tb : TS) (D : Ends) (σ : St) (H : Hp) : Prop := ∃ W : Nat -> Nat -> St -> Hp -> Prop, (∃ m, W 0 m σ H) /\ ∀ i m σ H, W i m σ H ->
 (J.stop i H /\ D.nx σ H) \/ (J.go i H /\ ∃ N : St -> Hp -> Prop, (∀ σ' H', N σ' H' -> ∃ m', m' < m /\ W (i + 1) m' σ' H') /\ ∀ x H', J.yld i H x H' -> g x σ H' fun σ2 H2 => tb { D with nx := N, ct := N, bk := D.nx } σ2 H2)
def n1b (wi : TI) (g : TG) (tb : TS) : TS := fun D σ H => wi σ H fun J H1 => m6w J g tb D σ H1
theorem b0r {X : Cx} {tg iter : Expr} {body : List Stmt} {wi : TI} {g : TG} {tb : TS} {pos : Pos} (hp : PassesOwn (model X.prog X.w) X.A X.env X.xe) (hc : X.calm = true) (hi : PI X tg iter wi) (hg : PG X tg g) (hb : PSs X body tb)
  (hs : ∀ x, foldedSetIterable iter X.env x = pure x := by intro _; rfl) : PS X (.For tg iter body [] pos) (n1b wi g tb) := m5y hp hc hi hg hb hs
theorem b5n {K : PySem.W.Frag} {a : Addr} {xs : List V} {g : TG} {tb : TS} {D : Ends} {σ : St} {H : Hp} (Pv : Nat -> St -> Hp -> Prop) (h0 : Pv 0 σ H) (hl : ∀ i σ H, i <= xs.length -> Pv i σ H -> SqL K H a xs)
  (hs : ∀ i x σ H, xs[i]? = some x -> Pv i σ H -> g x σ H fun σ2 H2 => tb { D with nx := Pv (i + 1), ct := Pv (i + 1), bk := D.nx } σ2 H2) (hd : ∀ σ H, Pv xs.length σ H -> D.nx σ H) : m6w (Itl K a) g tb D σ H := l6u Pv h0 hl hs hd
theorem f3n {lo : Int} {n : Nat} {g : TG} {tb : TS} {D : Ends} {σ : St} {H : Hp} (Pv : Nat -> St -> Hp -> Prop) (h0 : Pv 0 σ H)
  (hs : ∀ i σ H, i < n -> Pv i σ H -> g (.int (lo + i)) σ H fun σ2 H2 => tb { D with nx := Pv (i + 1), ct := Pv (i + 1), bk := D.nx } σ2 H2) (hd : ∀ σ H, Pv n σ H -> D.nx σ H) : m6w (Itr lo n) g tb D σ H := l1q Pv h0 hs hd
def l9x (c : TT) (tb : TS) (D : Ends) (σ : St) (H : Hp) : Prop := ∃ W : Nat -> St -> Hp -> Prop, (∃ m, W m σ H) /\ ∀ m σ H, W m σ H ->
 c σ H fun b H1 => if b = true then tb { D with nx := fun σ' H' => ∃ m', m' < m /\ W m' σ' H', ct := fun σ' H' => ∃ m', m' < m /\ W m' σ' H', bk := D.nx } σ H1 else D.nx σ H1
def m1q (c : TT) (tb : TS) : TS := fun D σ H => l9x c tb D σ H
theorem h0q {X : Cx} {c : Expr} {body : List Stmt} {tc : TT} {tb : TS} {pos : Pos} (hp : PassesOwn (model X.prog X.w) X.A X.env X.xe) (hc : PT X c tc) (hb : PSs X body tb) : PS X (.While c body [] pos) (m1q tc tb) := by
 intro pins s σ H D I h
 obtain ⟨W, ⟨m0, w0⟩, turn⟩ := h
 refine wpAny_While (codeAny_whileLoop (fun n s' => ∃ σ' H', Inv X pins σ' H' s' /\ W n σ' H') ?_ m0 ⟨σ, H, I, w0⟩)
 rintro n s1 ⟨σ1, H1, I1, w1⟩
 refine wpAny_passesOwn hp (thn (hc pins s1 σ1 H1 _ I1 (turn n σ1 H1 w1)) fun b s2 ⟨H2, I2, q2⟩ => ?_)
 cases b with
 | true =>
  rw [if_pos rfl]
  refine wpAny_passesOwn hp (thn (hb pins s2 σ1 H2 _ I2 q2) fun f s3 q3 => ?_)
  cases f with
  | next =>
   obtain ⟨σ3, H3, I3, m', hm, w3⟩ := q3
   exact ⟨m', hm, σ3, H3, I3, w3⟩
  | cont =>
   obtain ⟨σ3, H3, I3, m', hm, w3⟩ := q3
   exact ⟨m', hm, σ3, H3, I3, w3⟩
  | brk => exact q3
  | ret v => exact q3
 | false =>
  rw [if_neg Bool.false_ne_true]
  exact wpAny_execs_nil ⟨σ1, H2, I2, q2⟩
theorem h0r {c : TT} {tb : TS} {D : Ends} {σ : St} {H : Hp} (Pv : Nat -> St -> Hp -> Prop) (m0 : Nat) (h0 : Pv m0 σ H)
  (hs : ∀ m σ H, Pv m σ H -> c σ H fun b H1 => if b = true then tb { D with nx := fun σ' H' => ∃ m', m' < m /\ Pv m' σ' H', ct := fun σ' H' => ∃ m', m' < m /\ Pv m' σ' H', bk := D.nx } σ H1 else D.nx σ H1) : l9x c tb D σ H :=
 ⟨Pv, ⟨m0, h0⟩, hs⟩
end L2
namespace Att
open PySem PySem.W PySem.Calls PyProof.Rows
open PySem.Builtin.Int (intBits)
theorem j7a {ns : List Int} (h : WData.layableAll [WData.list (ns.map WData.int)] = true) : ∀ n ∈ ns, intBits n <= 1048576 := by
 intro n hn
 have h1 := layableW_arg h _ (List.mem_singleton.mpr rfl)
 have h2 := layableW_item h1 (WData.int n) (List.mem_map.mpr ⟨n, hn, rfl⟩)
 have h3 := (layableW_iff.mp h2).2.2
 exact h3
theorem i9p {l : OpenLaw} {n : Nat} {q : Program} {loose : List Str} {XP : (Str -> Option Value) -> Heap -> Prop} {YP : World -> Heap -> Prop} {d : DefRec}
  (hn : l.most = some n) (hdf : d.params.defaults = [])
  (call : ∀ (w : World) (s₀ s₁ : Shared) (mg mb : Str -> Option Value) (fa : Addr) (o : Obj) (pm cd doc : Value) (a : Addr) (vs : List Value) (ns : List Int),
   Ground q loose [] XP w s₀ mg mb s₁.heap -> YP w s₁.heap ->
   s₁.heap.get? fa = some o -> o.data = .func (docDef d.name d.params d.body d.scope pm cd doc) -> s₁.heap.CodeRec cd d.name -> mg d.name = some (.ref fa) ->
   s₁.heap.get? a = some { cls := .type "list", data := .seq vs.toArray } → IntsAre vs ns → ns.length ≤ n → (∀ x ∈ ns, intBits x ≤ 1048576) → s₁.gens = #[] →
   codeAny (model l.prog w) callerA (.call (.ref fa) ⟨[.ref a], []⟩) (fun r s' => r = .ok (.ret (.bool true)) /\ OldK s₁.heap s'.heap /\ s'.os = s₁.os /\ AllBare s'.gens) s₁) :
  WalkO q loose XP YP l.row.toRowW d [] (fun f vs => PySem.call f vs) := by
 intro w s₀ s₁ mg mb G Y fa o pm cd doc dV kV ho hd hcd hD hmg hg args vals as hpre hlay hrd hwl hlo
 obtain rfl : dV = .none := Dflts.none hD hdf
 obtain rfl : kV = .none := Dflts.noKw hD
 obtain ⟨a, vs, ns, rfl, rfl, hobj, hints, hlen⟩ := l2g hn hpre hwl
 refine enter_call (codeAny_mono (call w s₀ s₁ mg mb fa o pm cd doc a vs ns G Y ho (fd_plain hd) hcd hmg hobj hints hlen (j7a hlay) hg) fun r s' hq => ?_)
 obtain ⟨rfl, h2, h3, h4⟩ := hq
 exact ⟨.inl ⟨.bool true, .bool true, [], rfl, fun _ => rfl, .bool true, l2h l _, fun _ => ⟨List.Pairwise.nil, fun _ hm => (nomatch hm)⟩⟩, h2, h3, h4⟩
end Att
namespace L2
open PySem PySem.Spec PyProof.Rows
open PySem.Builtin.Int (intBits)
def j7b (n : Nat) (K : PySem.W.Frag) : Sp := fun vs H Q _ => ∃ (a : Addr) (ns : List Int), vs = [.ref a] /\ SqL K H a (ns.map V.int) /\ ns.length <= n /\ (∀ x ∈ ns, intBits x <= 1048576) /\ Only H /\ ∀ H', Q (.bl true) H'
theorem l7i {l : PySem.W.OpenLaw} {k : Nat} {q : Program} {loose : List Str} {XP : (Str -> Option Value) -> Heap -> Prop} {YP : World -> Heap -> Prop} {d : DefRec} {K : Params -> PySem.W.Frag} {CX : World -> CXT} {x : Str}
  (hn : l.most = some 63) (hdf : d.params.defaults = []) (hr : a2q k callerA)
  (hY : ∀ (w : World) (h : Heap), YP w h -> (K w.params).In h)
  (F : ∀ (w : World) (mg : Str -> Option Value) (fa : Addr) (h : Heap), (K w.params).In h -> h.Ns mainGlobals mg -> mg d.name = some (.ref fa) ->
   ∃ fd : FuncData, (∀ (s : Shared) (u : Value), BindsTo s fd ⟨[u], []⟩ [(x, u)]) /\
    ∀ base : Heap, (K w.params).In base -> base.Ns mainGlobals mg -> a1s l.prog w (K w.params) mg base (CX w) k fa fd [x] (j7b 63 (K w.params)))
  (hCX : ∀ (w : World) (H : Hp) (s : Shared) (e : Value) (s' : Shared), CX w [] H s (fun _ _ _ => False) e s' -> False) :
  PySem.W.WalkO q loose XP YP l.row.toRowW d [] (fun f vs => PySem.call f vs) := by
 refine Att.i9p hn hdf fun w s₀ s₁ mg mb fa o pm cd doc a vs ns G Y ho hd hcd hmg hobj hints hlen hbits hg => ?_
 have KX := hY w _ Y
 obtain ⟨fd, hb, hF⟩ := F w mg fa _ KX G.T.g hmg
 exact l7d KX G.T.g G.T.b G.T.builtins G.T.nolimit hg hobj hints (Nat.le_trans hlen (by decide)) hr hF hb (fun H hO hS => ⟨a, ns, rfl, hS, hlen, hbits, hO, fun _ => rfl⟩) fun H e s' => hCX w H s₁ e s'
end L2
namespace L2
open PySem PySem.Spec PyProof.Rows
theorem Same.upd {H : Hp} {p : Addr} {o : HO} (h : H p = none) : Same H (upd H p o) := fun b u e => by
 rw [a4v (a6l e h)]; exact e
structure Tag {α : Type} (a : α) : Type where
def New (H : Hp) (o : HO) (Q : VK) (_ : Tag Q) : Prop := ∀ p H1, H p = none -> Same H H1 -> H1 p = some o -> Q (.ref p) H1
def All (C : V -> Hp -> Prop) (Q : VK) (_ : Tag C) (_ : Tag Q) : Prop := ∀ v H1, C v H1 -> Q v H1
theorem New.raw {H : Hp} {o : HO} {Q : VK} {t : Tag Q} (h : New H o Q t) : ∀ p, H p = none -> Q (.ref p) (L2.upd H p o) := fun p e => h p _ e (Same.upd e) a5l
theorem n3w {CX : CXT} {P : Program} {w : World} {K : PySem.W.Frag} {mg : Str -> Option Value} {base : Heap} {N : List Str} {qual : Str} {scope : Scope} {f : Addr} {cd : Value} {A : Around} {outer : List Env} {s : Shared} {H : Hp} {E : XK} : (m1j CX P w K mg base N qual scope f cd A outer s H E).K = K := rfl
section
variable {X : Cx} {es : List Expr} {t : TA} {pos : Pos}
def n1c (t : TA) : TE := fun σ H Q => t σ H fun xs H1 => xs.length <= sizeLine /\ New H1 (.tup xs) Q ⟨⟩
def n1d (t : TA) : TE := fun σ H Q => t σ H fun xs H1 => xs.length <= sizeLine /\ New H1 (.lst xs) Q ⟨⟩
end
section
variable {X : Cx} {a b c : Expr} {ta tb tc : TE} {pos : Pos}
def n1e : R2 := fun x y H Q => match x, y with
 | .int i, .int j => Q (.int (i + j)) H
 | .str u, .str v => u.length + v.length <= sizeLine /\ Q (.str (u ++ v)) H
 | .ref l, .ref b => ∃ xs zs, H l = some (.lst xs) /\ H b = some (.lst zs) /\ xs.length + zs.length <= sizeLine /\ New H (.lst (xs ++ zs)) Q ⟨⟩
 | _, _ => False
theorem a2g : OpR X (binaryOp .Add) n1e := by
 intro pins s σ H x y v u Q I rx ry h
 cases x <;> cases y <;> first
  | exact False.elim h
  | exact m5z pins s σ H _ _ v u Q I rx ry ⟨_, _, rfl, rfl, h⟩
  | exact k5m pins s σ H _ _ v u Q I rx ry ⟨_, _, rfl, rfl, h.1, h.2⟩
  | (obtain ⟨xs, zs, h1, h2, h3, h4⟩ := h
     exact m6q pins s σ H _ _ v u Q I rx ry ⟨_, _, _, _, rfl, rfl, h1, h2, h3, h4.raw⟩)
def n1f : R2 := fun x y H Q => match x, y with
 | .int i, .int j => IntMulOk i j /\ Q (.int (i * j)) H
 | .ref l, .int k => ∃ xs, H l = some (.lst xs) /\ -(2 ^ 63) <= k /\ k < 2 ^ 63 /\ xs.length * k.toNat <= sizeLine /\ New H (.lst (List.replicate k.toNat xs).flatten) Q ⟨⟩
 | _, _ => False
theorem a3l : OpR X (binaryOp .Mult) n1f := by
 intro pins s σ H x y v u Q I rx ry h
 cases x <;> cases y <;> first
  | exact False.elim h
  | exact m1o pins s σ H _ _ v u Q I rx ry ⟨_, _, rfl, rfl, h.1, h.2⟩
  | (obtain ⟨xs, h1, h2, h3, h4, h5⟩ := h
     exact m6r pins s σ H _ _ v u Q I rx ry ⟨_, _, _, rfl, rfl, h1, h2, h3, h4, h5.raw⟩)
def n1g (K : PySem.W.Frag) : R2 := fun x y H Q => if l1s x y = true then Q (.bl (decide (x = y))) H else n0h K x y H Q
def n3x (K : PySem.W.Frag) : R2 := fun x y H Q => if l1s x y = true then Q (.bl (!decide (x = y))) H else m6t K x y H Q
theorem c4h (hu : X.A.units + 64 < cLine) : OpR X (compareOp .Eq) (n1g X.K) := by
 intro pins s σ H x y v u Q I rx ry h
 unfold n1g at h
 by_cases hs : l1s x y = true
 ·rw [if_pos hs] at h
  exact n0t pins s σ H x y v u Q I rx ry ⟨hs, h⟩
 ·rw [if_neg hs] at h
  exact m6u hu pins s σ H x y v u Q I rx ry h
theorem c7p (hu : X.A.units + 64 < cLine) : OpR X (compareOp .NotEq) (n3x X.K) := by
 intro pins s σ H x y v u Q I rx ry h
 unfold n3x at h
 by_cases hs : l1s x y = true
 ·rw [if_pos hs] at h
  exact n0u pins s σ H x y v u Q I rx ry ⟨hs, h⟩
 ·rw [if_neg hs] at h
  exact m6v hu pins s σ H x y v u Q I rx ry h
def rIxM : R2 := fun x y H Q => match x, y with
 | .ref p, .int i => (match H p with
  | some (.tup xs) => ∃ v, atI xs i = some v /\ Q v H
  | some (.lst xs) => ∃ v, atI xs i = some v /\ Q v H
  | _ => False)
 | .str z, .int i => ∃ c, z.length <= sizeLine /\ atI z.cps.toList i = some c /\ Q (.str ⟨#[c]⟩) H
 | _, _ => False
theorem a3q : IxR X rIxM := by
 intro value slice pins s σ H x y v u Q I rx ry h hs
 cases x with
 | ref p =>
  cases y with
  | int i =>
   have h' : (match H p with
    | some (.tup xs) => ∃ v, atI xs i = some v /\ Q v H
    | some (.lst xs) => ∃ v, atI xs i = some v /\ Q v H
    | _ => False) := h
   split at h'
   ·rename_i xs e
    obtain ⟨z, h2, h3⟩ := h'
    exact m6l value slice pins s σ H _ _ v u Q I rx ry ⟨_, xs, _, z, rfl, rfl, SqT.of e, h2, h3⟩ hs
   ·rename_i xs e
    obtain ⟨z, h2, h3⟩ := h'
    exact l2e value slice pins s σ H _ _ v u Q I rx ry ⟨_, xs, _, z, rfl, rfl, SqL.of e, h2, h3⟩ hs
   ·exact h'.elim
  | _ => exact False.elim h
 | str z =>
  cases y with
  | int i =>
   obtain ⟨c, h1, h2, h3⟩ := h
   exact m6m value slice pins s σ H _ _ v u Q I rx ry ⟨_, _, c, rfl, rfl, h1, h2, h3⟩ hs
  | _ => exact False.elim h
 | _ => exact False.elim h
noncomputable def rSlM : V -> Option Int -> Option Int -> Hp -> VK -> Prop := fun x lo hi H Q => match x with
 | .ref a => (match H a with
  | some (.lst xs) => New H (.lst (g5j xs lo hi)) Q ⟨⟩
  | _ => False)
 | _ => False
theorem sl_M : SlR X rSlM := by
 intro pins s σ H x v vl vu lo hi sl Q I rx hs pl pu h
 cases x with
 | ref a =>
  have h' : (match H a with
   | some (.lst xs) => New H (.lst (g5j xs lo hi)) Q ⟨⟩
   | _ => False) := h
  split at h'
  ·rename_i xs e
   exact j6x pins s σ H _ v vl vu lo hi sl Q I rx hs pl pu ⟨_, xs, rfl, SqL.of e, h'.raw⟩
  ·exact h'.elim
 | _ => exact False.elim h
noncomputable def rSlK (K : PySem.W.Frag) : V -> Option Int -> Option Int -> Hp -> VK -> Prop := fun x lo hi H Q => ∃ a xs, x = .ref a /\ SqL K H a xs /\ New H (.lst (g5j xs lo hi)) Q ⟨⟩
theorem sl_K : SlR X (rSlK X.K) := by
 intro pins s σ H x v vl vu lo hi sl Q I rx hs pl pu h
 obtain ⟨a, xs, e, h1, h2⟩ := h
 exact j6x pins s σ H _ v vl vu lo hi sl Q I rx hs pl pu ⟨a, xs, e, h1, h2.raw⟩
noncomputable def n1h : List V -> Hp -> VK -> Prop := fun xs H Q => match xs with
 | [.ref p] => (match H p with
  | some (.lst ys) => Q (.int ys.length) H
  | some (.tup ys) => Q (.int ys.length) H
  | _ => False)
 | [.str z] => z.length <= sizeLine /\ Q (.int z.length) H
 | _ => False
theorem a2r : c0j X (.builtin "len") n1h := by
 intro pins s σ H xs us Q I r h
 match xs, r, h with
 | [.ref p], r, h =>
  have h' : (match H p with
   | some (.lst ys) => Q (.int ys.length) H
   | some (.tup ys) => Q (.int ys.length) H
   | _ => False) := h
  split at h'
  ·rename_i ys e
   exact d8g pins s σ H _ us Q I r ⟨p, ys, rfl, .inl (SqL.of e), h'⟩
  ·rename_i ys e
   exact d8g pins s σ H _ us Q I r ⟨p, ys, rfl, .inr (SqT.of e), h'⟩
  ·exact h'.elim
 | [.str z], r, h => exact i9m pins s σ H _ us Q I r ⟨z, rfl, h.1, h.2⟩
theorem l2j : c0j X (.builtin "len") (fun xs H Q => ∃ p ys, xs = [.ref p] ∧ SqL X.K H p ys ∧ Q (.int ys.length) H) := by
 intro pins s σ H xs us Q I r h
 obtain ⟨p, ys, e, h1, h2⟩ := h
 exact d8g pins s σ H _ us Q I r ⟨p, ys, e, .inl h1, h2⟩
theorem n1i {i j : Int} : l1s (.int i) (.int j) = true := rfl
theorem n1j {i j : Str} : l1s (.str i) (.str j) = true := rfl
theorem n1k {i j : Bool} : l1s (.bl i) (.bl j) = true := rfl
theorem n1l : l1s .non .non = true := rfl
theorem n1m {i j : Addr} : l1s (.ref i) (.ref j) = false := rfl
theorem n3y {H : Hp} {i : Int} : l9v H (.int i) = some .int := rfl
theorem n3z {H : Hp} {i : Str} : l9v H (.str i) = some .str := rfl
theorem n4a {H : Hp} {i : Bool} : l9v H (.bl i) = some .bl := rfl
theorem n4b {H : Hp} : l9v H .non = some .non := rfl
theorem n4c {H : Hp} {a : Addr} : l9v H (.ref a) = (match H a with
  | some (.lst _) => some .lst
  | some (.frz _ (.lst _)) => some .lst
  | some (.tup _) => some .tup
  | some (.dK _) => some .dct
  | some (.dT _) => some .dct
  | _ => none) := rfl
theorem two_line : 2 <= sizeLine := by decide
theorem m6x {α : Type} {x : α} {xs : List α} : atI (x :: xs) 0 = some x := d7z (j := 0) rfl
theorem m6y {α : Type} {x y : α} {xs : List α} : atI (x :: y :: xs) 1 = some y := d7z (j := 1) rfl
theorem m6z {α : Type} {x y z : α} {xs : List α} : atI (x :: y :: z :: xs) 2 = some z := d7z (j := 2) rfl
theorem m7a {α : Type} {x y z u : α} {xs : List α} : atI (x :: y :: z :: u :: xs) 3 = some u := d7z (j := 3) rfl
theorem l9y {p q A B : Prop} [Decidable p] [Decidable q] : (if p then (if q then A else B) else B) = (if p /\ q then A else B) := by
 by_cases hp : p <;> by_cases hq : q <;> simp [hp, hq]
theorem m1r {p q A B : Prop} [Decidable p] [Decidable q] : (if p then A else (if q then A else B)) = (if p \/ q then A else B) := by
 by_cases hp : p <;> by_cases hq : q <;> simp [hp, hq]
end
section
variable {X : Cx} {es : List Expr} {t : TA} {pos : Pos}
theorem a8w {x1} (h : PA X es t) : PE X (.Tuple es x1 pos) (n1c t) := by
 intro pins s σ H Q I hq
 refine wpAny_Tuple_spliced (thn (h pos pins s σ H _ I hq) fun us s1 ⟨xs, H1, I1, r, z, q⟩ => ⟨by rw [<- r.length]; exact z, ?_⟩)
 have hf : H1 s1.heap.objs.size = none := I1.hok.fresh (Nat.le_refl _)
 refine ⟨.ref s1.heap.objs.size, upd H1 s1.heap.objs.size (.tup xs), I1.laid (t' := s1.toks) (fun b u e => Heap.get?_push_of_some _ e) (Nat.le_refl _) ?_, rfl, q.raw _ hf⟩
 exact ⟨z, us, r, ⟨_, Heap.get?_push_size _ rfl, rfl, _, rfl⟩⟩
theorem c8z (h : PA X es t) : PE X (.List es pos) (n1d t) := by
 intro pins s σ H Q I hq
 refine wpAny_List_spliced (thn (h pos pins s σ H _ I hq) fun us s1 ⟨xs, H1, I1, r, z, q⟩ => ⟨by rw [<- r.length]; exact z, ?_⟩)
 have hf : H1 s1.heap.objs.size = none := I1.hok.fresh (Nat.le_refl _)
 refine ⟨.ref s1.heap.objs.size, upd H1 s1.heap.objs.size (.lst xs), I1.laid (t' := s1.toks) (fun b u e => Heap.get?_push_of_some _ e) (Nat.le_refl _) ?_, rfl, q.raw _ hf⟩
 exact ⟨z, us, 0, r, Heap.get?_push_size _ rfl⟩
theorem k5u : c0j X (.type "list") (fun xs H Q => ∃ p ys, xs = [.ref p] ∧ (SqL X.K H p ys ∨ SqT X.K H p ys) ∧ New H (.lst ys) Q ⟨⟩) := by
 intro pins s σ H xs us Q I r h
 obtain ⟨p, ys, e, h1, h2⟩ := h
 exact i9n pins s σ H xs us Q I r ⟨p, ys, e, h1, h2.raw⟩
end
theorem Same.tup {K : PySem.W.Frag} {H H' : Hp} {a : Addr} {xs : List V} (e : Same H H') (h : SqT K H a xs) : SqT K H' a xs := by
 rcases h with (h | ⟨o, h⟩) | h
 ·exact .inl (.inl (e _ _ h))
 ·exact .inl (.inr ⟨o, e _ _ h⟩)
 ·exact .inr h
end L2
namespace L2
open PySem PySem.Spec PyProof.Rows
open PySem.Builtin.Int (intBits)
section
variable {X : Cx} {e a b c : Expr} {es rest : List Expr} {pos : Pos} {tg iter : Expr}
theorem PE.weak {t u : TE} (h : PE X e t) (q : ∀ σ H Q, u σ H Q -> t σ H Q) : PE X e u := fun pins s σ H Q I hu => h pins s σ H Q I (q σ H Q hu)
theorem PI.weak {t u : TI} (h : PI X tg iter t) (q : ∀ σ H Q, u σ H Q -> t σ H Q) : PI X tg iter u := fun pins s σ H Q I hu => h pins s σ H Q I (q σ H Q hu)
theorem OpR.weak {f : Value -> Value -> Sem Value} {r r' : R2} (h : OpR X f r) (q : ∀ x y H Q, r' x y H Q -> r x y H Q) : OpR X f r' := fun pins s σ H x y v u Q I rx ry hr => h pins s σ H x y v u Q I rx ry (q x y H Q hr)
theorem UnR.weak {f : Value -> Sem Value} {r r' : V -> Hp -> VK -> Prop} (h : UnR X f r) (q : ∀ x H Q, r' x H Q -> r x H Q) : UnR X f r' := fun pins s σ H x v Q I rx hr => h pins s σ H x v Q I rx (q x H Q hr)
theorem c0j.weak {f : Value} {r r' : List V -> Hp -> VK -> Prop} (h : c0j X f r) (q : ∀ xs H Q, r' xs H Q -> r xs H Q) : c0j X f r' := fun pins s σ H xs us Q I rx hr => h pins s σ H xs us Q I rx (q xs H Q hr)
theorem IxR.weak {r r' : R2} (h : IxR X r) (q : ∀ x y H Q, r' x y H Q -> r x y H Q) : IxR X r' := fun value slice pins s σ H x y v u Q I rx ry hr hs => h value slice pins s σ H x y v u Q I rx ry (q x y H Q hr) hs
def a7q (i : Nat) : TE := fun σ H Q => match σ[i]? with
 | some (some v) => Q v H
 | _ => False
theorem pvF (i : Nat) {x : Str} {pos : Pos} (hN : X.N[i]? = some x := by rfl) (hv : Vis X.env.scope x := by first | exact Or.inl rfl | exact Or.inr (Or.inl rfl) | exact Or.inr (Or.inr rfl)) (hd : (x == ("__debug__" : Str)) = false := by decide)
  (hcd : (x == ("__classdict__" : Str)) = false := by decide) : PE X (.Name x pos) (a7q i) := (m5m hN hv hd hcd).weak fun σ H Q h => by
 unfold a7q at h
 split at h
 ·rename_i v e
  exact ⟨v, e, h⟩
 ·exact h.elim
def rIF (C : Int -> Int -> Prop) (g : Int -> Int -> V) : R2 := fun x y H Q => match x, y with
 | .int i, .int j => C i j /\ Q (g i j) H
 | _, _ => False
def m4z (g : Int -> Int -> V) : R2 := fun x y H Q => match x, y with
 | .int i, .int j => Q (g i j) H
 | _, _ => False
theorem l2k {C : Int -> Int -> Prop} {g : Int -> Int -> V} : ∀ x y H Q, rIF C g x y H Q -> rI C g x y H Q := fun x y H Q h => by
 cases x <;> cases y <;> first | exact False.elim h | exact ⟨_, _, rfl, rfl, h⟩
theorem h0s {g : Int -> Int -> V} : ∀ x y H Q, m4z g x y H Q -> rI0 g x y H Q := fun x y H Q h => by
 cases x <;> cases y <;> first | exact False.elim h | exact ⟨_, _, rfl, rfl, h⟩
theorem d0t : OpR X (binaryOp .Sub) (m4z fun i j => .int (i - j)) := m6a.weak h0s
theorem a4n : OpR X (binaryOp .FloorDiv) (rIF CFd fun i j => .int (i.fdiv j)) := l7h.weak l2k
theorem a7o : OpR X (binaryOp .Mod) (rIF (fun _ j => j ≠ 0) fun i j => .int (i.fmod j)) := m1d.weak l2k
theorem f9z : OpR X (binaryOp .Pow) (rIF n3q fun i j => .int (i ^ j.toNat)) := m6b.weak l2k
theorem of_lt : OpR X (compareOp .Lt) (m4z fun i j => .bl (decide (i < j))) := n0v.weak h0s
theorem of_le : OpR X (compareOp .LtE) (m4z fun i j => .bl (decide (i <= j))) := n0w.weak h0s
theorem i9q : OpR X (compareOp .Gt) (m4z fun i j => .bl (decide (j < i))) := n0x.weak h0s
theorem l7j : OpR X (compareOp .GtE) (m4z fun i j => .bl (decide (j <= i))) := n0y.weak h0s
noncomputable def rUF (g : Int -> V) : V -> Hp -> VK -> Prop := fun x H Q => match x with
 | .int i => Q (g i) H
 | _ => False
theorem i9r : UnR X (unaryOp .USub) (rUF fun i => .int (-i)) := m6c.weak fun x H Q h => by
 cases x <;> first | exact False.elim h | exact ⟨_, rfl, h⟩
def tBF (t : TE) : TT := fun σ H Q => t σ H fun x H1 => match x with
 | .bl k => Q k H1
 | _ => False
theorem a2l {op : CmpOp} {r : R2} {ta tb : TE} (ho : OpR X (compareOp op) r) (ha : PE X a ta) (hb : PE X b tb) (hm : behindInMarks op b = false) : PT X (.Compare a [op] [b] pos) (tBF (tOp r ta tb)) := by
 intro pins s σ H Q I h
 refine (m1e (ho.weak (r' := fun x y H Q => r x y H Q) fun _ _ _ _ z => z) ha hb hm) pins s σ H _ I ?_
 unfold m6d
 exact h |> fun h => by
  unfold tBF at h
  have e : (fun (x : V) (H1 : Hp) => match x with | .bl k => Q k H1 | _ => False) = fun x H1 => ∃ k, x = V.bl k /\ Q k H1 := by
   funext x H1
   cases x <;> simp
  rw [e] at h
  exact h
theorem a7j {t : TE} (h : PE X e t) (he : ∀ whole, isTrue e X.env whole = (do let v <- whole; standAt e.pos; holding [v] (truthy v)) := by intro _; rfl) : PT X e (tBF t) := by
 intro pins s σ H Q I hw
 refine (m5n h he) pins s σ H _ I ?_
 unfold tB
 unfold tBF at hw
 have e : (fun (x : V) (H1 : Hp) => match x with | .bl k => Q k H1 | _ => False) = fun x H1 => ∃ k, x = V.bl k /\ Q k H1 := by
  funext x H1
  cases x <;> simp
 rw [e] at hw
 exact hw
def m7b (ta tb : TE) : TE := fun σ H Q => ta σ H fun x H1 => match x with
 | .bl c => if c = true then tb σ H1 Q else Q (.bl false) H1
 | _ => False
def tOrF (ta tb : TE) : TE := fun σ H Q => ta σ H fun x H1 => match x with
 | .bl c => if c = true then Q (.bl true) H1 else tb σ H1 Q
 | _ => False
def m7c (ta : TE) : TE := fun σ H Q => ta σ H fun x H1 => match x with
 | .bl c => Q (.bl (!c)) H1
 | _ => False
theorem h0t {ta tb : TE} (ha : PE X a ta) (hb : PE X (.BoolOp .And (b :: rest) pos) tb) : PE X (.BoolOp .And (a :: b :: rest) pos) (m7b ta tb) := by
 intro pins s σ H Q I h
 refine (m5q ha hb) pins s σ H Q I ?_
 unfold m5o
 unfold m7b at h
 have e : (fun (x : V) (H1 : Hp) => match x with | .bl c => (if c = true then tb σ H1 Q else Q (.bl false) H1) | _ => False) = fun x H1 => ∃ c, x = V.bl c /\ if c = true then tb σ H1 Q else Q (.bl false) H1 := by
  funext x H1
  cases x <;> simp
 rw [e] at h
 exact h
theorem l2l {ta : TE} (ha : PE X a ta) : PE X (.UnaryOp .Not a pos) (m7c ta) := by
 intro pins s σ H Q I h
 refine (m5r ha) pins s σ H Q I ?_
 unfold m5p
 unfold m7c at h
 have e : (fun (x : V) (H1 : Hp) => match x with | .bl c => Q (.bl (!c)) H1 | _ => False) = fun x H1 => ∃ c, x = V.bl c /\ Q (.bl (!c)) H1 := by
  funext x H1
  cases x <;> simp
 rw [e] at h
 exact h
def l9z (ta : TA) : TI := fun σ H R => ta σ H fun vs H1 => match vs with
 | [.int j] => -(2 ^ 62) <= j /\ j < 2 ^ 62 /\ R (Itr 0 j.toNat) H1
 | _ => False
def m0a (ta : TA) : TI := fun σ H R => ta σ H fun vs H1 => match vs with
 | [.int i, .int j] => (-(2 ^ 62) <= i /\ i < 2 ^ 62 /\ -(2 ^ 62) <= j /\ j < 2 ^ 62) /\ R (Itr i (j - i).toNat) H1
 | _ => False
def n4d (ta : TA) : TI := fun σ H R => ta σ H fun vs H1 => match vs with
 | [.int i, .int j, .int c] => (0 <= i /\ i < 2 ^ 32 /\ 0 <= j /\ j < 2 ^ 32 /\ 0 < c /\ c < 2 ^ 30) /\ R (Itr3 i c (rngN i j c)) H1
 | _ => False
theorem b7j {ta : TA} {p pos : Pos} (hg : Gl X "range") (hm : X.mg "range" = none) (ha : PA X [a] ta) (hs : starEach [a] X.env = [(false, eval a X.env)] := by rfl) : PI X tg (.Call (.Name "range" p) [a] [] pos) (l9z ta) := by
 refine (l1n hg hm ha hs).weak fun σ H R h => ?_
 unfold m5w
 unfold l9z at h
 have e : (fun (vs : List V) (H1 : Hp) => (match vs with | [.int j] => -(2 ^ 62) <= j /\ j < 2 ^ 62 /\ R (Itr 0 j.toNat) H1 | _ => False : Prop)) = fun vs H1 => ∃ j : Int, vs = [.int j] /\ -(2 ^ 62) <= j /\ j < 2 ^ 62 /\ R (Itr 0 j.toNat) H1 := by
  funext vs H1
  refine propext ⟨fun z => ?_, fun ⟨j, e, z⟩ => by subst e; exact z⟩
  match vs, z with
  | [.int j], z => exact ⟨j, rfl, z⟩
 rw [e] at h
 exact h
theorem k5v {ta : TA} {p pos : Pos} (hg : Gl X "range") (hm : X.mg "range" = none) (ha : PA X [a, b] ta) (hs : starEach [a, b] X.env = [(false, eval a X.env), (false, eval b X.env)] := by rfl) (hs2 : starEach [b] X.env = [(false, eval b X.env)] := by rfl) :
  PI X tg (.Call (.Name "range" p) [a, b] [] pos) (m0a ta) := by
 refine (l1o hg hm ha hs hs2).weak fun σ H R h => ?_
 unfold m5x
 unfold m0a at h
 have e : (fun (vs : List V) (H1 : Hp) => match vs with | [.int i, .int j] => (-(2 ^ 62) <= i /\ i < 2 ^ 62 /\ -(2 ^ 62) <= j /\ j < 2 ^ 62) /\ R (Itr i (j - i).toNat) H1 | _ => False) = fun vs H1 => ∃ i j : Int, vs = [.int i, .int j] /\ (-(2 ^ 62) <= i /\ i < 2 ^ 62 /\ -(2 ^ 62) <= j /\ j < 2 ^ 62) /\ R (Itr i (j - i).toNat) H1 := by
  funext vs H1
  refine propext ⟨fun z => ?_, fun ⟨i, j, e, z⟩ => by subst e; exact z⟩
  match vs, z with
  | [.int i, .int j], z => exact ⟨i, j, rfl, z⟩
 rw [e] at h
 exact h
def m0b (K : PySem.W.Frag) (tl : TE) : TI := fun σ H R => tl σ H fun x H1 => match x with
 | .ref a => (∃ xs, SqL K H1 a xs) /\ R (Itl K a) H1
 | _ => False
theorem a5n {l : Expr} {tl : TE} (hl : PE X l tl) : PI X tg l (m0b X.K tl) := (m1c hl).weak fun σ H R h => by
 unfold m5v
 unfold m0b at h
 have e : (fun (x : V) (H1 : Hp) => match x with | .ref a => (∃ xs, SqL X.K H1 a xs) /\ R (Itl X.K a) H1 | _ => False) = fun x H1 => ∃ a, x = .ref a /\ (∃ xs, SqL X.K H1 a xs) /\ R (Itl X.K a) H1 := by
  funext x H1
  cases x <;> simp
 rw [e] at h
 exact h
def n1n (K : PySem.W.Frag) : R2 := fun x y H Q => match x, y with
 | .ref p, .int i => ∃ ns : List Int, SqL K H p (ns.map V.int) /\ 0 <= i /\ i < ns.length /\ Q (.int (ns.getD i.toNat 0)) H
 | _, _ => False
theorem l7k {ns : List Int} {i : Int} (h0 : 0 <= i) (h1 : i < ns.length) : atI (ns.map V.int) i = some (.int (ns.getD i.toNat 0)) := by
 obtain ⟨j, rfl⟩ := Int.eq_ofNat_of_zero_le h0
 refine d7z ?_
 have hj : j < ns.length := by omega
 rw [List.getElem?_map, List.getElem?_eq_getElem hj, List.getD_eq_getElem?_getD, Int.toNat_natCast, List.getElem?_eq_getElem hj]
 rfl
theorem ix_S : IxR X (n1n X.K) := l2e.weak fun x y H Q h => by
 cases x with
 | ref p =>
  cases y with
  | int i =>
   obtain ⟨ns, h1, h2, h3, h4⟩ := h
   exact ⟨p, _, i, _, rfl, rfl, h1, l7k h2 h3, h4⟩
  | _ => exact False.elim h
 | _ => exact False.elim h
noncomputable def n1o (K : PySem.W.Frag) : List V -> Hp -> VK -> Prop := fun xs H Q => match xs with
 | [.ref p] => ∃ ys, SqL K H p ys /\ Q (.int ys.length) H
 | _ => False
theorem k5w : c0j X (.builtin "len") (n1o X.K) := l2j.weak fun xs H Q h => by
 match xs, h with
 | [.ref p], ⟨ys, h1, h2⟩ => exact ⟨p, ys, rfl, h1, h2⟩
noncomputable def n1p (K : PySem.W.Frag) : V -> Option Int -> Option Int -> Hp -> VK -> Prop := fun x lo hi H Q => match x with
 | .ref a => ∃ xs, SqL K H a xs /\ New H (.lst (g5j xs lo hi)) Q ⟨⟩
 | _ => False
theorem m7d : SlR X (n1p X.K) := by
 intro pins s σ H x v vl vu lo hi sl Q I rx hs pl pu h
 cases x <;> first
  | exact False.elim h
  | (obtain ⟨xs, h1, h2⟩ := h
     exact sl_K pins s σ H _ v vl vu lo hi sl Q I rx hs pl pu ⟨_, xs, rfl, h1, h2⟩)
def m0c (t : TE) : TO := fun σ H Q => t σ H fun x H1 => match x with
 | .int i => Q (some i) H1
 | _ => False
theorem a3y {te : TE} (h : PE X e te) : PO X (some e) (m0c te) := by
 intro pins s σ H Q I hw
 refine (m1l h) pins s σ H Q I ?_
 unfold m6j
 unfold m0c at hw
 have e : (fun (x : V) (H1 : Hp) => match x with | .int i => Q (some i) H1 | _ => False) = fun x H1 => ∃ i, x = V.int i /\ Q (some i) H1 := by
  funext x H1
  cases x <;> simp
 rw [e] at hw
 exact hw
noncomputable def rAbs : List V -> Hp -> VK -> Prop := fun xs H Q => match xs with
 | [.int i] => Q (.int i.natAbs) H
 | _ => False
theorem c0k : c0j X (.builtin "abs") rAbs := l6v.weak fun xs H Q h => by
 match xs, h with
 | [.int i], h =>
  refine ⟨i, rfl, ?_⟩
  have e : (if i < 0 then -i else i) = (i.natAbs : Int) := by split <;> omega
  rw [e]
  exact h
noncomputable def rMin : List V -> Hp -> VK -> Prop := fun xs H Q => match xs with
 | [.int i, .int j] => Q (.int (min i j)) H
 | _ => False
noncomputable def rMax : List V -> Hp -> VK -> Prop := fun xs H Q => match xs with
 | [.int i, .int j] => Q (.int (max i j)) H
 | _ => False
theorem l2m (hc : X.calm = true) : c0j X (.builtin "min") rMin := (l1x hc).weak fun xs H Q h => by
 match xs, h with
 | [.int i, .int j], h =>
  refine ⟨i, j, rfl, ?_⟩
  have e : (if j < i then j else i) = min i j := by split <;> omega
  rw [e]
  exact h
theorem i9s (hc : X.calm = true) : c0j X (.builtin "max") rMax := (l1w hc).weak fun xs H Q h => by
 match xs, h with
 | [.int i, .int j], h =>
  refine ⟨i, j, rfl, ?_⟩
  have e : (if j > i then j else i) = max i j := by split <;> omega
  rw [e]
  exact h
noncomputable def m7e (K : PySem.W.Frag) : List V -> Hp -> VK -> Prop := fun xs H Q => match xs with
 | [.ref p] => (match H p with
  | some (.lst ys) => New H (.lst ys) Q ⟨⟩
  | some (.tup ys) => New H (.lst ys) Q ⟨⟩
  | _ => False)
 | _ => False
theorem a4w : c0j X (.type "list") (m7e X.K) := k5u.weak fun xs H Q h => by
 match xs, h with
 | [.ref p], h =>
  have h' : (match H p with
   | some (.lst ys) => New H (.lst ys) Q ⟨⟩
   | some (.tup ys) => New H (.lst ys) Q ⟨⟩
   | _ => False) := h
  split at h'
  ·rename_i ys e
   exact ⟨p, ys, rfl, .inl (SqL.of e), h'⟩
  ·rename_i ys e
   exact ⟨p, ys, rfl, .inr (SqT.of e), h'⟩
  ·exact h'.elim
theorem n4e {α : Type} {x : α} {xs : List α} {p : α -> Prop} : (∃ v, atI (x :: xs) 0 = some v /\ p v) = p x := by
 rw [m6x]; simp
theorem n4f {α : Type} {x y : α} {xs : List α} {p : α -> Prop} : (∃ v, atI (x :: y :: xs) 1 = some v /\ p v) = p y := by
 rw [m6y]; simp
theorem n4g {α : Type} {x y z : α} {xs : List α} {p : α -> Prop} : (∃ v, atI (x :: y :: z :: xs) 2 = some v /\ p v) = p z := by
 rw [m6z]; simp
theorem n4h {α : Type} {x y z u : α} {xs : List α} {p : α -> Prop} : (∃ v, atI (x :: y :: z :: u :: xs) 3 = some v /\ p v) = p u := by
 rw [m7a]; simp
end
end L2
namespace L2
open PySem PySem.Spec PyProof.Rows PySem.W
theorem k5x (ns : List Int) : kqdPs (ns.map Dat.int) = ns.map PyData.int := by
 induction ns with
 | nil => rfl
 | cons n ns ih => simp only [List.map_cons, kqdPs, kqdP, ih]
theorem g0a {n : Nat} {d : Dat} (h : kqdOk n d = true) (hn : n <= 64) : SeqAt.shaped (kqdP d) = true := by
 have l := kqd_lay n d h
 unfold SeqAt.shaped
 rw [l.1, Bool.true_and]
 exact decide_eq_true (Nat.le_trans l.2 hn)
theorem m0d {n k : Nat} {d e : Dat} (hd : kqdOk n d = true) (he : kqdOk k e = true) {c : Bool} (hc : c = true ↔ d = e) : PyData.eqv (kqdP d) (kqdP e) = c := by
 have q := kqd_eqv n d e k hd he
 cases c with
 | true => exact q.mpr (hc.mp rfl)
 | false => exact Bool.eq_false_iff.mpr fun z => absurd (hc.mpr (q.mp z)) Bool.false_ne_true
theorem m7f {K : PySem.W.Frag} {H : Hp} {x y : V} {d e : Dat} {n k : Nat} {c : Bool} {Q : VK} (hd : i8y K H x (kqdP d)) (he : i8y K H y (kqdP e)) (kd : kqdOk n d = true) (ke : kqdOk k e = true) (hn : n <= 64) (hk : k <= 64) (hc : c = true ↔ d = e) (q : Q (.bl c) H) : n0h K x y H Q :=
 ⟨_, _, hd, he, g0a kd hn, g0a ke hk, by rw [m0d kd ke hc]; exact q⟩
theorem m0e {K : PySem.W.Frag} {H : Hp} {x y : V} {d e : Dat} {n k : Nat} {c : Bool} {Q : VK} (hd : i8y K H x (kqdP d)) (he : i8y K H y (kqdP e)) (kd : kqdOk n d = true) (ke : kqdOk k e = true) (hn : n <= 64) (hk : k <= 64) (hc : c = true ↔ d = e) (q : Q (.bl (!c)) H) : m6t K x y H Q :=
 ⟨_, _, hd, he, g0a kd hn, g0a ke hk, by rw [m0d kd ke hc]; exact q⟩
theorem i9t {K : PySem.W.Frag} {H : Hp} : ∀ ns : List Int, d8h K H (ns.map V.int) (ns.map PyData.int)
 | [] => .nil
 | n :: ns => .cons (.int n) (i9t ns)
theorem i9u {K : PySem.W.Frag} {H : Hp} {p : Addr} {ns : List Int} (h : SqL K H p (ns.map V.int)) : i8y K H (.ref p) (kqdP (.list (ns.map .int))) := by
 rw [kqdP, k5x]
 exact .lst h (i9t ns)
theorem j7c {ns ms : List Int} : ns.map Dat.int = ms.map Dat.int ↔ ns = ms := by
 induction ns generalizing ms with
 | nil => cases ms <;> simp
 | cons n ns ih => cases ms <;> simp [ih]
theorem m1s {ns : List Int} (k : Nat) : (ns.map Dat.int).all (kqdOk k) = true := by
 induction ns with
 | nil => rfl
 | cons n ns ih => rw [List.map_cons, List.all_cons, ih, Bool.and_true]; cases k <;> rfl
theorem k4b (ns : List Int) : kqdOk 1 (.list (ns.map .int)) = true := m1s 0
theorem k4c {K : PySem.W.Frag} {H : Hp} {p q : Addr} {ns ms : List Int} {Q : VK} (hp : SqL K H p (ns.map V.int)) (hq : SqL K H q (ms.map V.int)) (h : Q (.bl (!decide (ns = ms))) H) : m6t K (.ref p) (.ref q) H Q :=
 m0e (i9u hp) (i9u hq) (k4b ns) (k4b ms) (by decide) (by decide) (by rw [decide_eq_true_eq, Dat.list.injEq, j7c]) h
end L2
namespace L2
open PySem PySem.Spec PyProof.Rows
open PySem.Builtin.Int (intBits)
def tCut (t u : TS) : TS := fun D σ H => ∃ Mid : St -> Hp -> Prop, t { D with nx := Mid } σ H /\ ∀ σ' H', Mid σ' H' -> u D σ' H'
theorem b5o {X : Cx} {st : Stmt} {rest : List Stmt} {t u : TS} (h1 : PS X st t) (h2 : PSs X rest u) : PSs X (st :: rest) (tCut t u) := by
 intro pins s σ H D I h
 obtain ⟨Mid, h, hm⟩ := h
 refine wpAny_execs_cons (thn (h1 pins s σ H { D with nx := Mid } I h) fun f s1 q => ?_)
 cases f with
 | next =>
  obtain ⟨σ', H', I', q⟩ := q
  exact h2 pins s1 σ' H' D I' (hm σ' H' q)
 | ret v => exact q
 | brk => exact q
 | cont => exact q
theorem l2n {ns : List Int} {n : Nat} (h : ∀ x ∈ ns, intBits x <= n) (k : Nat) : intBits (ns.getD k 0) <= n := by
 rw [List.getD_eq_getElem?_getD]
 cases e : ns[k]? with
 | none => exact Nat.zero_le _
 | some x => exact h x (List.mem_of_getElem? e)
end L2
namespace L2
open PySem PySem.Spec PyProof.Rows
theorem g1v {env : Env} : ∀ (names : List (Str × NameKind)) (acc : List (Str × Addr)), (∀ y, (y, NameKind.free) ∈ names -> ∃ c, env.cells.lookup y = some c) ->
  ∃ cl, (forIn names acc (fun (x : Str × NameKind) (cs : List (Str × Addr)) => (if x.2 == NameKind.free then (do let c <- cellOf env x.1; pure (ForInStep.yield ((x.1, c) :: cs))) else pure (ForInStep.yield cs) : Sem (ForInStep (List (Str × Addr)))))) = pure cl /\
   (∀ y c, cl.lookup y = some c -> acc.lookup y = some c \/ ((y, NameKind.free) ∈ names /\ env.cells.lookup y = some c)) /\
   (∀ y, (y, NameKind.free) ∈ names -> cl.lookup y = env.cells.lookup y) /\ (∀ y, (∀ k, (y, k) ∈ names -> k ≠ NameKind.free) -> cl.lookup y = acc.lookup y)
 | [], acc, _ => ⟨acc, rfl, fun y c h => .inl h, fun y h => (nomatch h), fun y _ => rfl⟩
 | (n, k) :: r, acc, h => by
  by_cases hk : k = NameKind.free
  ·subst hk
   obtain ⟨c, hc⟩ := h n List.mem_cons_self
   obtain ⟨cl, h1, h2, h3, h4⟩ := g1v r ((n, c) :: acc) fun y hy => h y (List.mem_cons_of_mem _ hy)
   have e : cellOf env n = pure c := by unfold cellOf; rw [hc]
   refine ⟨cl, ?_, fun y d hd => ?_, fun y hy => ?_, fun y hy => ?_⟩
   ·rw [List.forIn_cons]
    simp only [beq_self_eq_true, if_true, e, pure_bind]
    exact h1
   ·rcases h2 y d hd with z | ⟨z1, z2⟩
    ·rw [List.lookup_cons] at z
     by_cases hy : y = n
     ·subst hy
      simp only [beq_self_eq_true] at z
      cases z
      exact .inr ⟨List.mem_cons_self, hc⟩
     ·have : (y == n) = false := by simpa using hy
      rw [this] at z
      exact .inl z
    ·exact .inr ⟨List.mem_cons_of_mem _ z1, z2⟩
   ·by_cases hr : (y, NameKind.free) ∈ r
    ·exact h3 y hr
    ·rcases List.mem_cons.mp hy with z | z
     ·cases z
      by_cases hq : ∃ k, (n, k) ∈ r /\ k = NameKind.free
      ·obtain ⟨k, z, rfl⟩ := hq
       exact absurd z hr
      ·rw [h4 n fun k hk e => hq ⟨k, hk, e⟩, List.lookup_cons]
       simp only [beq_self_eq_true]
       exact hc.symm
     ·exact absurd z hr
   ·have hn : y ≠ n := fun e => by
     subst e
     exact hy _ List.mem_cons_self rfl
    rw [h4 y fun k hk => hy k (List.mem_cons_of_mem _ hk), List.lookup_cons]
    have : (y == n) = false := by simpa using hn
    rw [this]
  ·obtain ⟨cl, h1, h2, h3, h4⟩ := g1v r acc fun y hy => h y (List.mem_cons_of_mem _ hy)
   have hb : (k == NameKind.free) = false := by simpa using hk
   refine ⟨cl, ?_, fun y d hd => ?_, fun y hy => ?_, fun y hy => h4 y fun k hk => hy k (List.mem_cons_of_mem _ hk)⟩
   ·rw [List.forIn_cons]
    simp only [hb, Bool.false_eq_true, if_false, pure_bind]
    exact h1
   ·rcases h2 y d hd with z | ⟨z1, z2⟩
    ·exact .inl z
    ·exact .inr ⟨List.mem_cons_of_mem _ z1, z2⟩
   ·rcases List.mem_cons.mp hy with z | z
    ·cases z
     exact absurd rfl hk
    ·exact h3 y z
theorem f3o {env : Env} {sc : Scope} (h : ∀ y, (y, NameKind.free) ∈ sc.names -> ∃ c, env.cells.lookup y = some c) :
  ∃ cl, closureFor sc env = pure cl /\ (∀ y c, cl.lookup y = some c -> (y, NameKind.free) ∈ sc.names /\ env.cells.lookup y = some c) /\ (∀ y, (y, NameKind.free) ∈ sc.names -> cl.lookup y = env.cells.lookup y) := by
 obtain ⟨cl, h1, h2, h3, _⟩ := g1v (env := env) sc.names [] h
 refine ⟨cl, ?_, fun y c hy => (h2 y c hy).elim (fun z => nomatch z) id, h3⟩
 unfold closureFor
 show (forIn sc.names [] _ >>= fun cs => pure cs) = pure cl
 rw [bind_pure]
 exact h1
end L2
namespace L2
open PySem PySem.Spec PyProof.Rows
noncomputable def mask (x : Str) (N : List Str) : List Str := N.map fun y => if y = x then "" else y
noncomputable def d0u (X : Cx) (scope : Scope) (cl : List (Str × Addr)) (C : Addr) (s₃ : Shared) (H₃ : Hp) (fp : List Addr) (x : Str) : Cx where
 prog := X.prog
 w := X.w
 K := X.K
 mg := X.mg
 base := X.base
 A := X.A
 N := x :: mask x X.N
 s₀ := s₃
 H₀ := H₃
 env := compEnvC scope cl C X.env
 outer := X.stack
 stack := X.stack
 ex := fp
 fn := fun _ => false
 calm := X.calm
 pn := []
 xe := fun _ _ => False
def a6j (D : Addr) (H H' : Hp) : Prop := ∀ b o, b ≠ D -> H b = some o -> H' b = some o
theorem a6j.upd {D : Addr} {H : Hp} {o : HO} : a6j D H (upd H D o) := fun b u hb e => by rw [a4v hb]; exact e
def h6g (J : It) (te : TE) (D : Addr) (σ : St) (H : Hp) (Q : VK) (_ : Tag Q) : Prop := ∃ (n : Nat) (W : Nat -> List V -> Hp -> Prop), W 0 [] H /\ ∀ i ys H, i <= n -> W i ys H -> H D = some (.lst ys) /\
 ((J.stop i H /\ Q (.ref D) H) \/ (i < n /\ J.go i H /\ ys.length < sizeLine /\ ∀ x H', J.yld i H x H' -> te (some x :: σ) H' fun y H2 => H2 D = some (.lst ys) /\
  ∀ H3, a6j D H2 H3 -> H3 D = some (.lst (ys ++ [y])) -> W (i + 1) (ys ++ [y]) H3))
def m7g (wi : TI) (te : TE) : TE := fun σ H Q => wi σ H fun J H1 => ∀ D H2, H1 D = none -> Same H1 H2 -> H2 D = some (.lst []) -> h6g J te D σ H2 Q ⟨⟩
theorem d0v {env : Env} {x : Str} : ∀ (names : List (Str × NameKind)) (k : NameKind), (names.map fun (n, k) => if (k == NameKind.free && env.scope.kind == .function && env.kindOf n == some .cell) then (n, NameKind.cell) else (n, k)).lookup x = some k ->
  (names.lookup x = some k) \/ (k = .cell /\ names.lookup x = some .free)
 | [], k, e => by cases e
 | (n, q) :: r, k, e => by
  rw [List.map_cons] at e
  dsimp only at e
  rw [List.lookup_cons]
  cases hx : (x == n) with
  | true =>
   by_cases hc : (q == NameKind.free && env.scope.kind == .function && env.kindOf n == some .cell) = true
   ·rw [if_pos hc, List.lookup_cons, hx] at e
    have : q = .free := by
     simp only [Bool.and_eq_true, beq_iff_eq] at hc
     exact hc.1.1
    subst this
    cases e
    exact .inr ⟨rfl, rfl⟩
   ·rw [if_neg hc, List.lookup_cons, hx] at e
    exact .inl e
  | false =>
   have e' : (r.map fun (n, k) => if (k == NameKind.free && env.scope.kind == .function && env.kindOf n == some .cell) then (n, NameKind.cell) else (n, k)).lookup x = some k := by
    by_cases hc : (q == NameKind.free && env.scope.kind == .function && env.kindOf n == some .cell) = true
    ·rw [if_pos hc, List.lookup_cons, hx] at e
     exact e
    ·rw [if_neg hc, List.lookup_cons, hx] at e
     exact e
   exact d0v r k e'
theorem b9k {env : Env} {sc : Scope} {x : Str} (h : (relabel sc env).names.lookup x = some .cell \/ (relabel sc env).names.lookup x = some .free) : (x, NameKind.free) ∈ sc.names \/ (x, NameKind.cell) ∈ sc.names := by
 rcases h with h | h
 ·rcases d0v sc.names _ h with z | ⟨_, z⟩
  ·exact .inr (PySem.mem_of_lookup z)
  ·exact .inl (PySem.mem_of_lookup z)
 ·rcases d0v sc.names _ h with z | ⟨z, _⟩
  ·exact .inl (PySem.mem_of_lookup z)
  ·cases z
structure d8i (X : Cx) (scope : Scope) (x : Str) : Prop where
 kind : scope.kind = .function
 h0u : ∀ y ∈ scope.names, y.2 ≠ .cell
 loc : ∀ y ∈ scope.names, y.2 = .local -> scope.names.lookup y.1 = some .local
 own : scope.names.lookup x = some .local
 free : ∀ y ∈ scope.names, y.2 = .free -> X.env.kindOf y.1 = some .cell \/ X.env.kindOf y.1 = some .free
 nd : (x :: mask x X.N).Nodup
 noe : ∀ y ∈ scope.names, y.1 ≠ ""
 vis : ∀ y ∈ mask x X.N, scope.names.lookup y ≠ some .local
section
variable {X : Cx} {scope : Scope} {x : Str} {cl : List (Str × Addr)} {pins : List (Addr × Obj)} {σ : St} {H : Hp} {s s₄ : Shared} {fp : List Addr}
theorem Inv.comp (S : d8i X scope x) (I : Inv X pins σ H s) (hcl : ∀ y c, cl.lookup y = some c -> (y, NameKind.free) ∈ scope.names /\ X.env.cells.lookup y = some c) (hcl2 : ∀ y, (y, NameKind.free) ∈ scope.names -> cl.lookup y = X.env.cells.lookup y)
  (hfp : ∀ b ∈ fp, i1x X pins H b) (hlt : ∀ b ∈ fp, b < s.heap.objs.size) {m : Str -> Option Value} (hns : s₄.heap.Ns s.heap.objs.size m) (hk : ∀ b o, s.heap.get? b = some o -> s₄.heap.get? b = some o) (hos : s₄.os = s.os) (hg : s₄.gens = s.gens) :
  Inv (d0u X scope cl s.heap.objs.size s H fp x) [] (none :: σ) H s₄ := by
 have below : ∀ {b : Addr} {o : Obj}, s.heap.get? b = some o -> b ≠ s.heap.objs.size := fun e => Nat.ne_of_lt (Heap.lt_size e)
 refine ⟨⟨I.ok.mod, ?_, I.ok.glob, I.ok.blt, Nat.le_refl _, fun y z c h1 h2 => I.ok.inj y z c (hcl y c h1).2 (hcl z c h2).2, fun y hy => ?_, (fun y c h => nomatch h), I.ok.hd, I.ok.frames, .inl rfl, fun b hb => ⟨Nat.ne_of_lt (hlt b hb), fun y c e => (hfp b hb).2.2.2.2.1 y c (hcl y c e).2⟩,
  fun b o e => I.bs b o e, Nat.le_trans I.ok.bsz I.sz, fun b o e hb => ?_, fun b hb hf => ?_, I.stack, I.j6u⟩,
  hos, by rw [hg]; exact I.bare, Un.kept hk, ⟨m, hns, fun i y v h1 h2 h3 => ?_⟩, fun y c e => ?_, I.hok.fresh (Nat.le_refl _), fun y c e => I.g6m y c (hcl y c e).2, fun p hp => absurd (show p ∈ ([] : List (Addr × Obj)) from hp) (by simp), I.hok.kept hk, by show (none :: σ).length = (x :: mask x X.N).length; rw [List.length_cons, List.length_cons, mask, List.length_map, I.len]⟩
 ·exact S.kind
 ·rcases b9k (env := X.env) (sc := scope) (x := y) hy with z | z
  ·obtain ⟨c, hc⟩ := I.ok.has y (S.free _ z rfl)
   exact ⟨c, (hcl2 y z).trans hc⟩
  ·exact absurd rfl (S.h0u _ z)
 ·rcases (hfp b hb).2.2.2.1 with z | z
  ·exact I.ok.m4y b o e z
  ·exact absurd (Nat.lt_of_lt_of_le (Heap.lt_size (I.ok.bs b o e).1) z) (Nat.lt_irrefl _)
 ·rcases List.mem_cons.mp (I.i0e b hf) with z | z
  ·exact (hfp b hb).2.1 z
  ·exact (hfp b hb).2.2.1 z
 ·cases i with
  | zero => cases h2
  | succ i =>
   have h1m : (mask x X.N)[i]? = some y := by simpa [d0u] using h1
   have h2' : σ[i]? = some (some v) := by simpa using h2
   have hyN : y ∈ mask x X.N := List.mem_of_getElem? h1m
   have hc : (relabel scope X.env).names.lookup y = some .cell \/ (relabel scope X.env).names.lookup y = some .free := by
    rcases h3 with z | z | z
    ·exfalso
     rcases d0v (env := X.env) scope.names _ z with q | ⟨q, _⟩
     ·exact S.vis y hyN q
     ·cases q
    ·exact .inl z
    ·exact .inr z
   have hfr : (y, NameKind.free) ∈ scope.names := by
    rcases b9k hc with z | z
    ·exact z
    ·exact absurd rfl (S.h0u _ z)
   have h1' : X.N[i]? = some y := by
    rw [mask, List.getElem?_map] at h1m
    obtain ⟨z, hz, e⟩ := Option.map_eq_some_iff.mp h1m
    by_cases hzx : z = x
    ·rw [if_pos hzx] at e
     exact absurd e.symm (S.noe _ hfr)
    ·rw [if_neg hzx] at e
     rw [hz, e]
   obtain ⟨mX, hnX, hl⟩ := I.loc
   have hk2 := S.free _ hfr rfl
   have n1q : Vis X.env.scope y := by
    rcases hk2 with z | z
    ·exact .inr (.inl z)
    ·exact .inr (.inr z)
   obtain ⟨u, ru, lk⟩ := hl i y v h1' h2' n1q
   refine ⟨u, ru, .inr ⟨hc, ?_⟩⟩
   rcases lk with ⟨z, _⟩ | ⟨_, c, ec, o, ho, hd⟩
   ·rcases hk2 with q | q
    ·rw [q] at z; cases z
    ·rw [q] at z; cases z
   ·exact ⟨c, (hcl2 y hfr).trans ec, o, hk c o ho, hd⟩
 ·obtain ⟨v, o, ho, hd⟩ := I.cell y c (hcl y c e).2
  exact ⟨v, o, hk c o ho, hd⟩
theorem Inv.m7h {σ' : St} {H' : Hp} {s' : Shared} {h' : Heap} (I : Inv X pins σ H s) (hfp : ∀ b ∈ fp, i1x X pins H b) (J : Inv (d0u X scope cl s.heap.objs.size s H fp x) [] σ' H' s') (hs : Heap.SameBut s.heap.objs.size s'.heap h') :
  Inv X pins σ H' { s' with heap := h' } := by
 have ne : ∀ {b : Addr} {o : Obj}, s.heap.get? b = some o -> b ≠ s.heap.objs.size := fun e => Nat.ne_of_lt (Heap.lt_size e)
 have u := J.base
 have u' : Un (frs X.stack) fp H H' s.heap h' := ⟨fun b o e n hb hx => hs.extBut b o (ne e) (u.keep b o e n hb hx), fun b o e n hb hx => (u.slot b o e n hb hx).elim fun sl q => ⟨sl, hs.extBut b _ (ne e) q⟩, u.free,
  fun b o e hx => (u.there b o e hx).elim fun o' q => ⟨o', hs.extBut b o' (ne e) q⟩, u.tups, u.l1d, u.l1i⟩
 have nC : ∀ {b : Addr} {o : HO}, H' b = some o -> b ≠ s.heap.objs.size := fun {b o} e z => by
  have f : H' s.heap.objs.size = none := J.free
  rw [z, f] at e; cases e
 have ok : HOk X.prog X.w H' h' := fun b o e => (J.hok b o e).stay (fun c v hc q => hs.extBut c v (by
  rcases hc with z | z
  ·rw [z]; exact nC e
  ·exact nC z) q) (fun _ q => q) fun _ _ q => q
 exact I.call' (s' := { s' with heap := h' }) (ch := fp) J.os u' ok J.bare fun b hb => ⟨(hfp b hb).2.2.2.1, (hfp b hb).2.1, (hfp b hb).2.2.2.2.1, (hfp b hb).2.2.2.2.2⟩
end
end L2
namespace L2
open PySem PySem.Spec PyProof.Rows
section
variable {X : Cx} {scope : Scope} {x : Str} {pins : List (Addr × Obj)} {σ : St} {elt iter : Expr} {px pos : Pos} {wi : TI} {te : TE}
theorem i0i {s₂ : Shared} {H1 : Hp} {it : Addr} {fp : List Addr} {tn : Nat -> Heap -> Prop} {J : It} {Q : VK} {RR : Value -> Addr -> Result -> Shared -> Prop} {E : Value -> Shared -> Prop} {cl : List (Str × Addr)}
  (S : d8i X scope x) (hc : X.calm = true) (he : ∀ cl C s₃ H₃ fp, PE (d0u X scope cl C s₃ H₃ fp x) elt te)
  (hcl : ∀ y c, cl.lookup y = some c -> (y, NameKind.free) ∈ scope.names /\ X.env.cells.lookup y = some c) (hcl2 : ∀ y, (y, NameKind.free) ∈ scope.names -> cl.lookup y = X.env.cells.lookup y)
  (I2 : Inv X pins σ H1 s₂) (T : Turn X.prog X.w X.K (.Name x px) J fp it tn) (st2 : tn 0 s₂.heap) (f2 : ∀ b ∈ fp, i1x X pins H1 b) (h : ∀ D H2, H1 D = none -> Same H1 H2 -> H2 D = some (.lst []) -> h6g J te D σ H2 Q ⟨⟩)
  (hRR : ∀ (D C : Addr) (s' : Shared) (H' : Hp), (∃ m, s'.heap.Ns C m) -> (∀ h' , Heap.SameBut C s'.heap h' -> Inv X pins σ H' { s' with heap := h' }) -> i1x X pins H' C -> Q (.ref D) H' -> RR (.ref D) C (.ok .next) s') :
  wpAny (model X.prog X.w) X.A (newList []) (fun acc s₃ => wpAny (model X.prog X.w) X.A (newFunctionEnv scope X.env.globals cl [] X.env.qual none .none (some X.env)) (fun cenv s₄ =>
   codeAny (model X.prog X.w) X.A (.compStart (.ListComp elt [⟨.Name x px, iter, [], 0⟩] scope pos) 0 (.ref it) acc { cenv with scope := relabel scope X.env }) (RR acc cenv.locals) s₄) E s₃) E s₂ := by
 have hfr : H1 s₂.heap.objs.size = none := I2.hok.fresh (Nat.le_refl _)
 have hCW := h s₂.heap.objs.size _ hfr (Same.upd hfr) a5l
 refine wpAny_newObj_type ?_
 have I3 : Inv X pins σ (upd H1 s₂.heap.objs.size (.lst [])) { s₂ with heap := s₂.heap.push { cls := .type "list", data := .seq ([] : List Value).toArray }, toks := s₂.toks } :=
  I2.laid (t' := s₂.toks) (fun b u e => Heap.get?_push_of_some _ e) (Nat.le_refl _) ⟨Nat.zero_le _, [], 0, .nil, Heap.get?_push_size _ rfl⟩
 have nD : ∀ b ∈ fp, b ≠ s₂.heap.objs.size := fun b hb => by
  obtain ⟨o, e, _⟩ := T.obj 0 _ st2 b hb
  exact Nat.ne_of_lt (Heap.lt_size e)
 have f3 : ∀ b ∈ fp, i1x X pins (upd H1 s₂.heap.objs.size (.lst [])) b := fun b hb => ⟨by rw [a4v (nD b hb)]; exact (f2 b hb).1, (f2 b hb).2⟩
 generalize hH3 : upd H1 s₂.heap.objs.size (.lst []) = H3 at *
 have st3 : tn 0 (s₂.heap.push { cls := .type "list", data := .seq ([] : List Value).toArray }) := T.keep _ _ _ st2 fun b _ o e => Heap.get?_push_of_some _ e
 have m1t : ∀ b ∈ fp, b < (s₂.heap.push { cls := .type "list", data := .seq ([] : List Value).toArray }).objs.size := fun b hb => by
  obtain ⟨o, e, _⟩ := T.obj 0 _ st3 b hb
  exact Heap.lt_size e
 show wpAny (model X.prog X.w) X.A (newFunctionEnv scope X.env.globals cl [] X.env.qual none .none (some X.env)) _ E { s₂ with heap := s₂.heap.push { cls := .type "list", data := .seq ([] : List Value).toArray }, toks := s₂.toks }
 generalize hs3 : ({ s₂ with heap := s₂.heap.push { cls := .type "list", data := .seq ([] : List Value).toArray }, toks := s₂.toks } : Shared) = s₃ at *
 have eh : s₃.heap = s₂.heap.push { cls := .type "list", data := .seq ([] : List Value).toArray } := by rw [← hs3]
 rw [<- eh] at st3 m1t
 generalize s₂.heap.objs.size = D at *
 refine wpAny_newFunctionEnv S.h0u (by intro y hy; simp at hy) (fun h₁ hns₁ hsb₁ => ?_) S.kind
 have hk1 : ∀ b o, s₃.heap.get? b = some o -> h₁.get? b = some o := fun b o e => hsb₁.extBut b o (Nat.ne_of_lt (Heap.lt_size e)) (Heap.get?_push_of_some _ e)
 have J0 : Inv (d0u X scope cl s₃.heap.objs.size s₃ H3 fp x) [] (none :: σ) H3 { s₃ with heap := h₁, toks := s₃.toks + ([] : List (Str × Value)).length } := I3.comp S hcl hcl2 f3 m1t hns₁ hk1 rfl rfl
 obtain ⟨n0, W, w0, turn⟩ := hCW
 have loop : codeAny (model X.prog X.w) X.A (.compLoop (.ListComp elt [⟨.Name x px, iter, [], 0⟩] scope pos) 0 (.ref it) (.ref D) (compEnvC scope cl s₃.heap.objs.size X.env)) (RR (.ref D) s₃.heap.objs.size) { s₃ with heap := h₁, toks := s₃.toks + ([] : List (Str × Value)).length } := by
  refine codeAny_loop rfl (fun n s' => ∃ i ys o H', Inv (d0u X scope cl s₃.heap.objs.size s₃ H3 fp x) [] (o :: σ) H' s' /\ tn i s'.heap /\ (∀ b ∈ fp, H' b = none) /\ W i ys H' /\ i <= n0 /\ n = n0 - i) (fun n s5 hI => ?_) n0
   ⟨0, [], none, H3, J0, T.keep _ _ _ st3 (fun b _ o e => hk1 b o e), fun b hb => (f3 b hb).1, w0, Nat.zero_le _, rfl⟩
  obtain ⟨i, ys, o5, H5, I5, st5, fr5, w5, hin, hnn⟩ := hI
  have stat : ∀ {H' : Hp}, (∀ b ∈ fp, H' b = none) -> ∀ b ∈ fp, i1x (d0u X scope cl s₃.heap.objs.size s₃ H3 fp x) [] H' b := fun hn b hb =>
   ⟨hn b hb, Nat.ne_of_lt (m1t b hb), fun z => (List.mem_cons.mp (I3.i0e b z)).elim (fun q => (f3 b hb).2.1 q) fun q => (f3 b hb).2.2.1 q, .inl hb, fun y c e => (f3 b hb).2.2.2.2.1 y c (hcl y c e).2, fun p hp => absurd (show p ∈ ([] : List (Addr × Obj)) from hp) (by simp)⟩
  show wpAny _ X.A ((compTurn (.ListComp elt [⟨.Name x px, iter, [], 0⟩] scope pos) 0 (.ref it) (.ref D) (compEnvC scope cl s₃.heap.objs.size X.env)).onRaise (fun x => do noteFrame x (compEnvC scope cl s₃.heap.objs.size X.env); theTreesLotGoes x)) _ _ s5
  refine wpAny_noted ?_
  rw [compTurn_list1]
  refine wpAny_bind (wpAny_standAt (wpAny_bind ?_))
  obtain ⟨hD5, alt⟩ := turn i ys H5 hin w5
  rcases alt with ⟨stop, q⟩ | ⟨hlt, go, hsz, step⟩
  ·refine wpAny_mono (T.done (d0u X scope cl s₃.heap.objs.size s₃ H3 fp x) rfl rfl rfl hc i [] s5 _ H5 _ I5 (stat fr5) st5 stop) (fun r s6 ⟨hr, I6⟩ => ?_) fun _ _ z => z
   subst hr
   refine wpAny_pure ?_
   obtain ⟨m6, hn6, _⟩ := I6.loc
   exact hRR D s₃.heap.objs.size s6 H5 ⟨m6, hn6⟩ (fun h' hs' => I3.m7h f3 I6 hs') (I3.l6i (Nat.le_refl _) I6.free) q
  ·refine wpAny_mono (T.item (d0u X scope cl s₃.heap.objs.size s₃ H3 fp x) rfl rfl rfl hc i [] s5 _ H5 _ I5 (stat fr5) st5 go) (fun r s6 ⟨u, hr, h6⟩ => ?_) fun _ _ z => z
   subst hr
   refine wpAny_bind (wpAny_mono h6 (fun _ s7 ⟨v, H7, I7, r7, y7, st7, fr7⟩ => ?_) fun _ _ z => z)
   have I7' := I7.pinned (stat fr7) (T.obj _ _ st7)
   have G := a5g (X := d0u X scope cl s₃.heap.objs.size s₃ H3 fp x) (pos := px) (i := 0) (x := x) S.nd rfl (.inl (lookup_relabel_local S.own)) (.inr (lookup_relabel_local S.own))
   refine wpAny_bind (wpAny_mono (G _ s7 _ H7 v u (fun σ' H' => σ' = some v :: σ /\ H' = H7) I7' r7 ⟨rfl, rfl⟩) (fun _ s8 hs8 => ?_) fun _ _ z => False.elim z)
   obtain ⟨σ8, H8, I8, rfl, rfl⟩ := hs8
   refine wpAny_bind (wpAny_bind (wpAny_mono (he cl s₃.heap.objs.size s₃ H3 fp _ s8 _ _ _ I8 (step v H8 y7)) (fun yv s9 hs9 => ?_) fun _ _ z => False.elim z))
   obtain ⟨y, H9, I9, r9, hD9, k9⟩ := hs9
   refine wpAny_bind (wpAny_mono (h0o (X := d0u X scope cl s₃.heap.objs.size s₃ H3 fp x) _ s9 _ H9 (.ref D) [y] (.ref D) [yv] (fun _ H' => H' = upd H9 D (.lst (ys ++ [y]))) I9 rfl (.cons r9 .nil) ⟨D, ys, y, rfl, rfl, hD9, hsz, rfl⟩) (fun _ sA hsA => ?_) fun _ _ z => False.elim z)
   obtain ⟨_, HA, IA, _, rfl⟩ := hsA
   refine wpAny_pure ?_
   have wA := k9 _ a6j.upd a5l
   refine wpAny_pure ⟨rfl, n0 - (i + 1), by omega, i + 1, ys ++ [y], some v, _, IA.f9y (pins := []) (pl := i0f fp s7.heap), T.keep _ _ _ st7 (fun b hb o e => (IA.pin (b, o) (List.mem_append_right _ (List.mem_append_right _ (c3i hb e)))).1), fun b hb => ?_, wA, hlt, rfl⟩
   obtain ⟨o, e, d⟩ := T.obj _ _ st7 b hb
   exact (IA.pin (b, o) (List.mem_append_right _ (List.mem_append_right _ (c3i hb e)))).2.1
 exact codeAny_compStart_list loop (T.self _ 0 _ _ _ (T.keep _ _ _ st3 fun b _ o e => hk1 b o e) loop)
theorem c4i (hi : PI X (.Name x px) iter wi) (he : ∀ cl C s₃ H₃ fp, PE (d0u X scope cl C s₃ H₃ fp x) elt te) (S : d8i X scope x) (hc : X.calm = true)
  (hs : ∀ x, foldedSetIterable iter X.env x = pure x := by intro _; rfl) : PE X (.ListComp elt [⟨.Name x px, iter, [], 0⟩] scope pos) (m7g wi te) := by
 intro pins s σ H Q I h
 obtain ⟨cl, hclos, hcl, hcl2⟩ := f3o (env := X.env) (sc := scope) fun y hy => I.ok.has y (S.free _ hy rfl)
 rw [eval_ListComp]
 refine wpAny_comprehension_free (use := none) rfl hs hclos S.kind S.loc ?_
 refine thn (hi pins s σ H _ I h) fun v s1 h1 => thn h1 fun itv s2 h2 => ?_
 obtain ⟨it, fp, tn, J, H2, e, I2, T, st2, f2, hW⟩ := h2
 subst e
 exact i0i (RR := fun acc C => compPost (model X.prog X.w) X.A X.xe none (EP X pins σ Q) acc C) S hc he hcl hcl2 I2 T st2 f2 hW fun D C s' H' hm hI _ hq =>
  hm.elim fun m hn => ⟨m, hn, fun h' hs' => ⟨.ref D, H', hI h' hs', rfl, hq⟩⟩
theorem i2e {i : Nat} {y : Str} {py spos : Pos} (hN : X.N.Nodup) (hyi : X.N[i]? = some y) (hy : X.env.scope.names.lookup y = some .local) (hi : PI X (.Name x px) iter wi) (he : ∀ cl C s₃ H₃ fp, PE (d0u X scope cl C s₃ H₃ fp x) elt te) (S : d8i X scope x) (hc : X.calm = true)
  (hsw : swapsWith (.ListComp elt [⟨.Name x px, iter, [], 0⟩] scope pos) (some (.Name y py)) spos.line X.env = pure true := by rfl)
  (hs : ∀ x, foldedSetIterable iter X.env x = pure x := by intro _; rfl) : PS X (.Assign [.Name y py] (.ListComp elt [⟨.Name x px, iter, [], 0⟩] scope pos) spos) (n0d (m7g wi te) (l6s i)) := by
 intro pins s σ H D I h
 obtain ⟨cl, hclos, hcl, hcl2⟩ := f3o (env := X.env) (sc := scope) fun y hy => I.ok.has y (S.free _ hy rfl)
 rw [exec_Assign_Name_used _ _ _ _ hsw]
 refine wpAny_bind (wpAny_standAt (wpAny_bind ?_))
 show wpAny _ X.A (do let _ <- comprehension (.ListComp elt [⟨.Name x px, iter, [], 0⟩] scope pos) scope X.env _ (newList []) false (eval iter X.env) (some (assign (.Name y py) X.env))) _ _ s
 refine wpAny_bind (wpAny_mono (wpAny_comprehension_free (use := some (assign (.Name y py) X.env)) (Q := fun _ s' => SP X pins D .next s') rfl hs hclos S.kind S.loc ?_) (fun _ s' hq => wpAny_pure (wpAny_pure hq)) fun _ _ e => e)
 refine thn (hi pins s σ H _ I h) fun v s1 h1 => thn h1 fun itv s2 h2 => ?_
 obtain ⟨it, fp, tn, J, H2, e, I2, T, st2, f2, hW⟩ := h2
 subst e
 refine i0i (Q := fun v H' => D.nx (σ.set i (some v)) H') (RR := fun acc C => compPost (model X.prog X.w) X.A X.xe (some (assign (.Name y py) X.env)) (fun _ s' => SP X pins D .next s') acc C) S hc he hcl hcl2 I2 T st2 f2 hW fun L C s' H' hm hI hfp hq => ?_
 obtain ⟨m, hn⟩ := hm
 have I' : Inv X pins σ H' s' := hI s'.heap (Heap.SameBut.refl ..)
 show wpAny _ X.A (assign (.Name y py) X.env (.ref L)) _ _ s'
 refine wpAny_assign_Name (h0e (v := .ref L) I' hN hyi (.inl hy) rfl (fun s'' I'' hsb => ?_) (.inr hy))
 obtain ⟨a, hsame, ha⟩ := hsb
 have nea : C ≠ a := by
  rcases ha with z | z
  ·rw [z]; exact hfp.2.1
  ·exact fun q => hfp.2.2.2.2.1 y a z q.symm
 refine ⟨m, hn.sameBut hsame nea, fun h' hs' => ⟨_, H', I''.turned (t' := s''.toks) (it := C) (fun b o hb e => hs'.extBut b o hb e) hfp.1 hfp.2.1 hfp.2.2.2.1 hfp.2.2.2.2.1 hfp.2.2.2.2.2, hq⟩⟩
end
theorem b7k {K : PySem.W.Frag} {a D : Addr} {xs : List V} {te : TE} {σ : St} {H : Hp} {Q : VK} (Pv : Nat -> List V -> Hp -> Prop) (h0 : Pv 0 [] H) (hsz : xs.length <= sizeLine)
  (hD : ∀ i ys H, i <= xs.length -> Pv i ys H -> H D = some (.lst ys) /\ SqL K H a xs /\ ys.length = i)
  (hs : ∀ i x ys H, xs[i]? = some x -> Pv i ys H -> te (some x :: σ) H fun y H2 => H2 D = some (.lst ys) /\ ∀ H3, a6j D H2 H3 -> H3 D = some (.lst (ys ++ [y])) -> Pv (i + 1) (ys ++ [y]) H3)
  (hd : ∀ ys H, Pv xs.length ys H -> Q (.ref D) H) : h6g (Itl K a) te D σ H Q ⟨⟩ := by
 refine ⟨xs.length, Pv, h0, fun i ys H hi p => ?_⟩
 obtain ⟨e1, e2, e3⟩ := hD i ys H hi p
 refine ⟨e1, ?_⟩
 by_cases hlt : i < xs.length
 ·refine .inr ⟨hlt, ⟨xs, xs[i], e2, by simp [hlt]⟩, by omega, fun x H' y => ?_⟩
  obtain ⟨e, y⟩ := y
  subst e
  exact hs i x ys _ (y xs e2) p
 ·have e : i = xs.length := by omega
  subst e
  exact .inl ⟨⟨xs, e2, Nat.le_refl _⟩, hd ys H p⟩
theorem h0v {D : Addr} {lo : Int} {n : Nat} {te : TE} {σ : St} {H : Hp} {Q : VK} (Pv : Nat -> List V -> Hp -> Prop) (h0 : Pv 0 [] H) (hsz : n <= sizeLine)
  (hD : ∀ i ys H, i <= n -> Pv i ys H -> H D = some (.lst ys) /\ ys.length = i)
  (hs : ∀ i ys H, i < n -> Pv i ys H -> te (some (.int (lo + i)) :: σ) H fun y H2 => H2 D = some (.lst ys) /\ ∀ H3, a6j D H2 H3 -> H3 D = some (.lst (ys ++ [y])) -> Pv (i + 1) (ys ++ [y]) H3)
  (hd : ∀ ys H, Pv n ys H -> Q (.ref D) H) : h6g (Itr lo n) te D σ H Q ⟨⟩ := by
 refine ⟨n, Pv, h0, fun i ys H hi p => ?_⟩
 obtain ⟨e1, e3⟩ := hD i ys H hi p
 refine ⟨e1, ?_⟩
 by_cases hlt : i < n
 ·refine .inr ⟨hlt, hlt, by omega, fun x H' y => ?_⟩
  obtain ⟨e, y⟩ := y
  subst e y
  exact hs i ys _ hlt p
 ·have e : i = n := by omega
  subst e
  exact .inl ⟨Nat.le_refl _, hd ys H p⟩
theorem Same.step {D : Addr} {H0 H H' : Hp} (S : Same H0 H) (n : H0 D = none) (s : a6j D H H') : Same H0 H' := fun b o e => s b o (a6l e n) (S b o e)
theorem i9v {K : PySem.W.Frag} {a D : Addr} {xs : List V} {te : TE} {σ : St} {H0 H : Hp} {Q : VK} (g : V -> V) (n0 : H0 D = none) (S : Same H0 H) (hD : H D = some (.lst [])) (hS : SqL K H0 a xs) (hsz : xs.length <= sizeLine)
  (hs : ∀ (i : Nat) x H' (Q' : VK), xs[i]? = some x -> Same H0 H' -> Q' (g x) H' -> te (some x :: σ) H' Q') (q : ∀ H', Same H0 H' -> H' D = some (.lst (xs.map g)) -> Q (.ref D) H') : h6g (Itl K a) te D σ H Q ⟨⟩ := by
 refine b7k (fun i ys H' => Same H0 H' /\ H' D = some (.lst ys) /\ ys = (xs.take i).map g) ⟨S, hD, by simp⟩ hsz (fun i ys H' hi p => ?_) (fun i x ys H' hx p => ?_) (fun ys H' p => ?_)
 ·refine ⟨p.2.1, p.1.seq hS, ?_⟩
  rw [p.2.2, List.length_map, List.length_take]
  omega
 ·refine hs i x H' _ hx p.1 ⟨p.2.1, fun H3 s3 h3 => ⟨p.1.step n0 s3, h3, ?_⟩⟩
  have hi : i < xs.length := (List.getElem?_eq_some_iff.mp hx).1
  rw [p.2.2, List.take_add_one, hx, List.map_append]
  rfl
 ·refine q H' p.1 ?_
  rw [p.2.1, p.2.2, List.take_length]
theorem g1w {D : Addr} {lo : Int} {n : Nat} {te : TE} {σ : St} {H0 H : Hp} {Q : VK} (g : Nat -> V) (n0 : H0 D = none) (S : Same H0 H) (hD : H D = some (.lst [])) (hsz : n <= sizeLine)
  (hs : ∀ (i : Nat) H' (Q' : VK), i < n -> Same H0 H' -> Q' (g i) H' -> te (some (.int (lo + i)) :: σ) H' Q') (q : ∀ H', Same H0 H' -> H' D = some (.lst ((List.range n).map g)) -> Q (.ref D) H') : h6g (Itr lo n) te D σ H Q ⟨⟩ := by
 refine h0v (fun i ys H' => Same H0 H' /\ H' D = some (.lst ys) /\ ys = (List.range i).map g) ⟨S, hD, by simp⟩ hsz (fun i ys H' hi p => ?_) (fun i ys H' hx p => ?_) (fun ys H' p => ?_)
 ·refine ⟨p.2.1, ?_⟩
  rw [p.2.2, List.length_map, List.length_range]
 ·refine hs i H' _ hx p.1 ⟨p.2.1, fun H3 s3 h3 => ⟨p.1.step n0 s3, h3, ?_⟩⟩
  rw [p.2.2, List.range_succ, List.map_append]
  rfl
 ·refine q H' p.1 ?_
  rw [p.2.1, p.2.2]
noncomputable def m0f (sc scope : Scope) (x : Str) (N : List Str) : Bool :=
 (scope.kind == .function) && scope.names.all (fun y => y.2 != .cell) && scope.names.all (fun y => y.2 != .local || scope.names.lookup y.1 == some .local) && (scope.names.lookup x == some .local) &&
 scope.names.all (fun y => y.2 != .free || (sc.names.lookup y.1 == some .cell || sc.names.lookup y.1 == some .free)) && decide ((x :: mask x N).Nodup) && scope.names.all (fun y => y.1 != "") && (mask x N).all (fun y => scope.names.lookup y != some .local)
theorem f5m {X : Cx} {sc scope : Scope} {x : Str} {N : List Str} (hsc : X.env.scope = sc) (hN : X.N = N) (h : m0f sc scope x N = true) : d8i X scope x := by
 subst hN hsc
 unfold m0f at h
 simp only [Bool.and_eq_true, List.all_eq_true, beq_iff_eq, Bool.or_eq_true, bne_iff_ne, ne_eq, decide_eq_true_eq] at h
 obtain ⟨⟨⟨⟨⟨⟨⟨h1, h2⟩, h3⟩, h4⟩, h5⟩, h6⟩, h7⟩, h8⟩ := h
 exact ⟨h1, h2, fun y hy e => (h3 y hy).resolve_left fun z => z e, h4, fun y hy e => (h5 y hy).resolve_left fun z => z e, h6, h7, h8⟩
end L2
namespace L2
open PySem PySem.Spec PyProof.Rows
noncomputable def n1r : V -> Hp -> Bool := fun x H => match x with
 | .ref l => (match H l with
  | some (.lst _) => true
  | _ => false)
 | _ => false
noncomputable def m7i : V -> Hp -> Bool := fun x _ => match x with
 | .str _ => true
 | _ => false
theorem b5p {K : PySem.W.Frag} : ∀ x H, n1r x H = true → tyV K "list" x H := fun x H h => by
 cases x with
 | ref l =>
  have h' : (match H l with
   | some (.lst _) => true
   | _ => false) = true := h
  split at h'
  ·rename_i xs e
   exact .inl ⟨rfl, xs, SqL.of e⟩
  ·cases h'
 | _ => cases h
theorem c0l {K : PySem.W.Frag} : ∀ x H, m7i x H = true → tyV K "str" x H := fun x H h => by
 cases x with
 | str z => exact rfl
 | _ => cases h
def tBMF (chk : V -> Hp -> Bool) (r : V -> List V -> Hp -> VK -> Prop) (to : TE) (t : TA) : TE := fun σ H Q => to σ H fun x H1 => chk x H1 = true /\ t σ H1 fun xs H2 => r x xs H2 Q
section
variable {X : Cx} {o e : Expr} {es : List Expr} {to : TE} {t : TA} {name : Str} {apos cpos : Pos} {T id : String} {r r' : V -> List V -> Hp -> VK -> Prop} {chk : V -> Hp -> Bool}
theorem MtR.weak (h : MtR X id r) (q : ∀ x xs H Q, r' x xs H Q -> r x xs H Q) : MtR X id r' := fun pins s σ H x xs v us Q I rx rs hr => h pins s σ H x xs v us Q I rx rs (q x xs H Q hr)
theorem b5q (hchk : ∀ x H, chk x H = true → tyV X.K T x H) (pa : PlainAttrs T) (slot : Slot T name id) (hty : typeOf (.builtin id) = pure (.type "method_descriptor")) (hm : MtR X id r) (ho : PE X o to) (ha : PA X (e :: es) t)
  (hbase : attributeBase o name X.env (eval o X.env) = eval o X.env := by rfl)
  (hfew : ((backTo cpos (starEach (e :: es) X.env)).all (fun x => !x.1) && (backToKw cpos (keywordEach [] X.env)).all (fun x => x.1.isSome)
   && decide ((e :: es).length + ([] : List Keyword).length + (if ([] : List Keyword).isEmpty then 0 else 1) < 30)) = true := by rfl)
  (hline : (apos.endLine == cpos.line) = true := by rfl) (hs : starEach (e :: es) X.env = (false, eval e X.env) :: starEach es X.env := by rfl) (hplain : (backTo cpos (starEach es X.env)).any (·.1) = false := by rfl) :
  PE X (.Call (.Attribute o name apos) (e :: es) [] cpos) (tBMF chk r to t) := by
 intro pins s σ H Q I h
 refine wpAny_Call_method_late hbase hfew hline rfl (thn (ho pins s σ H _ I h) fun v s1 ⟨x, H1, I1, r1, ty, q1⟩ => ?_)
 obtain ⟨h1, h2⟩ := m6o I1 r1 (hchk x H1 ty)
 refine ⟨T, id, pa, slot, hty, h1, h2, ?_⟩
 have hA := ha cpos pins s1 σ H1 _ I1 q1
 rw [hs] at hA ⊢
 refine Calls.callWith_builtin (by show (false || (backTo cpos (starEach es X.env)).any (·.1)) = false; rw [hplain] <;> rfl) (Calls.evalArgs_plain ?_)
 exact thn hA fun us s2 ⟨vs, H2, I2, r2, q2⟩ => hm pins s2 σ H2 x vs v us Q I2 r1 r2 q2
noncomputable def n1s : V -> List V -> Hp -> VK -> Prop := fun x vs H Q => match x, vs with
 | .ref l, [y] => (match H l with
  | some (.lst xs) => xs.length < sizeLine /\ All (fun v H1 => v = .non /\ a6j l H H1 /\ H1 l = some (.lst (xs ++ [y]))) Q ⟨⟩ ⟨⟩
  | _ => False)
 | _, _ => False
theorem b1z : MtR X "list.append" n1s := MtR.weak (r := l2f) h0o fun x vs H Q h => by
 match x, vs, h with
 | .ref l, [y], h =>
  have h' : (match H l with
   | some (.lst xs) => xs.length < sizeLine /\ All (fun v H1 => v = .non /\ a6j l H H1 /\ H1 l = some (.lst (xs ++ [y]))) Q ⟨⟩ ⟨⟩
   | _ => False) := h
  split at h'
  ·rename_i xs e
   exact ⟨l, xs, y, rfl, rfl, e, h'.1, h'.2 _ _ ⟨rfl, a6j.upd, a5l⟩⟩
  ·exact h'.elim
end
noncomputable def g6o {α : Type} (xs : List α) (lo hi : Option Int) : List α := (xs.drop (HT.sIx xs.length 0 lo)).take (HT.sIx xs.length xs.length hi - HT.sIx xs.length 0 lo)
theorem l7l {α β : Type} (f : α -> β) (xs : List α) (lo hi : Option Int) : g6o (xs.map f) lo hi = (g6o xs lo hi).map f := by
 unfold g6o
 rw [List.length_map, List.map_take, List.map_drop]
theorem c0m (ns : List Int) (lo hi : Option Int) : g5j (ns.map V.int) lo hi = (g6o ns lo hi).map V.int := l7l V.int ns lo hi
theorem k4d {α : Type} {xs : List α} {lo hi : Option Int} {x : α} (h : x ∈ g6o xs lo hi) : x ∈ xs := List.mem_of_mem_drop (List.mem_of_mem_take h)
theorem k4e {α : Type} (xs : List α) (lo hi : Option Int) : (g6o xs lo hi).length <= xs.length := by
 unfold g6o
 rw [List.length_take, List.length_drop]
 omega
theorem a5v {α : Type} (xs : List α) (a : Nat) : g6o xs (some (a : Int)) none = xs.drop a := by
 unfold g6o
 rw [HT.i2a, HT.l6z]
 by_cases h : a <= xs.length
 ·rw [Nat.min_eq_left h, List.take_of_length_le (by rw [List.length_drop] <;> exact Nat.le_refl _)]
 ·rw [Nat.min_eq_right (by omega), List.drop_length, List.drop_of_length_le (by omega)]
  simp
end L2
namespace L2
theorem f5n (F : Nat -> St -> Hp -> Prop) : ∃ Pv : Nat -> St -> Hp -> Prop, (∀ i σ H, F i σ H -> Pv i σ H) /\ ∀ i σ H, Pv i σ H -> F i σ H := ⟨F, fun _ _ _ h => h, fun _ _ _ h => h⟩
theorem l1f (F : St -> Hp -> Prop) : ∃ Pv : St -> Hp -> Prop, (∀ σ H, F σ H -> Pv σ H) /\ ∀ σ H, Pv σ H -> F σ H := ⟨F, fun _ _ h => h, fun _ _ h => h⟩
end L2
namespace L2
open PySem PySem.Spec PyProof.Rows
open PySem.Builtin.Int (intBits)
section
variable {X : Cx}
noncomputable def rSumF : List V -> Hp -> VK -> Prop := fun xs H Q => match xs with
 | [.ref p] => (match H p with
  | some (.lst ys) => ∃ ns : List Int, ys = ns.map V.int /\ Q (.int ns.sum) H
  | _ => False)
 | _ => False
end
def Stop (p : Prop) (_ : Tag p) : Prop := p
def n4i (t u : TS) : TS := fun D σ H => t { D with nx := fun σ' H' => Stop (u D σ' H') ⟨⟩ } σ H
def Hs (H : Hp) (fs : List (Addr × HO)) : Prop := (fs.map (·.1)).Nodup /\ ∀ p ∈ fs, H p.1 = some p.2
theorem Hs.nil {H : Hp} : Hs H [] := ⟨List.nodup_nil, fun _ h => nomatch h⟩
theorem h6h {ns : List Int} {i : Nat} (h : i < ns.length) : atI (ns.map V.int) (i : Int) = some (.int (ns.getD i 0)) := by
 refine d7z ?_
 rw [List.getElem?_map, List.getElem?_eq_getElem h, List.getD_eq_getElem?_getD, List.getElem?_eq_getElem h]
 rfl
def n4j (H : Hp) (cs : List Addr) (bs : List (List Int)) : Prop := cs.length = bs.length /\ ∀ (i : Nat) c b, cs[i]? = some c -> bs[i]? = some b -> H c = some (.lst (b.map V.int))
theorem n4j.two {H : Hp} {a b : Addr} {x y : List Int} (ha : H a = some (.lst (x.map V.int))) (hb : H b = some (.lst (y.map V.int))) : n4j H [a, b] [x, y] := by
 refine ⟨rfl, fun i c d e1 e2 => ?_⟩
 match i, e1, e2 with
 | 0, e1, e2 => cases e1; cases e2; exact ha
 | 1, e1, e2 => cases e1; cases e2; exact hb
 | i + 2, e1, e2 => simp at e1
def i9w (H : Hp) (xs : List V) (v : V) (H' : Hp) : Prop := ∃ b, v = .ref b /\ H b = none /\ Same H H' /\ H' b = some (.lst xs)
def g0b (H : Hp) (xs : List V) (v : V) (H' : Hp) : Prop := ∃ b, v = .ref b /\ H b = none /\ Same H H' /\ H' b = some (.tup xs)
noncomputable def d7y (q : Rat) : List V := [.int q.num, .int (q.den : Nat)]
end L2
namespace L2
open PySem PySem.Spec PyProof.Rows
noncomputable def CXE (P : Program) (w : World) : CXT := fun outer H s E e s' => ∃ (a : Addr) (C a0 : Value) (B : Heap) (H' : Hp), e = .ref a /\ Heap.FlyingW B outer a C a0 s'.heap /\ s'.os = s.os /\ AllBare s'.gens /\
 (∀ h', B.StaysIn h' -> s'.heap.UpToSlots h' -> Un (frs outer) [] H H' s.heap h' /\ HOk P w H' h') /\ H' a = none /\ s.heap.get? a = none /\ E C none H'
section
variable {X : Cx} {pins : List (Addr × Obj)} {σ : St} {H : Hp} {s : Shared}
theorem Inv.track {a : Addr} {o : HO} (I : Inv X pins σ H s) (h1 : X.s₀.heap.get? a = none) (h2 : a ≠ X.env.locals) (h3 : ∀ x c, X.env.cells.lookup x = some c -> c ≠ a) (h4 : ∀ p ∈ X.pn ++ pins, p.1 ≠ a) (hH : H a = none)
  (new : c8w X.prog X.w (upd H a o) s.heap a o) : Inv X pins σ (upd H a o) s := by
 refine ⟨I.ok, I.os, I.bare, ⟨I.base.keep, I.base.slot, fun b u q n hx => ?_, I.base.there, fun b xs q => ?_, fun b u xs q => ?_, fun b ps q => ?_⟩, I.loc, I.cell, ?_, fun x c e => ?_, fun p hp => ?_, fun b u e => ?_, I.len⟩
 ·rw [a4v (fun z => by rw [z, h1] at q; cases q)]
  exact I.base.free b u q n hx
 ·have z := I.base.tups b xs q
  rw [a4v (a6l z hH)]
  exact z
 ·have z := I.base.l1d b u xs q
  rw [a4v (a6l z hH)]
  exact z
 ·obtain ⟨m, z⟩ := I.base.l1i b ps q
  exact ⟨m, by rw [a4v (a6l z hH)]; exact z⟩
 ·rw [a4v h2.symm]
  exact I.free
 ·rw [a4v (h3 x c e)]
  exact I.g6m x c e
 ·obtain ⟨e, n, ne, nf, d⟩ := I.pin p hp
  exact ⟨e, by rw [a4v (h4 p hp)]; exact n, ne, nf, d⟩
 ·by_cases hb : b = a
  ·subst hb
   rw [a5l] at e
   cases e
   exact new
  ·rw [a4v hb] at e
   exact (I.hok b u e).stay (fun _ _ _ q => q) (fun c q => by rw [a4v (a6l q hH)]; exact q) fun c xs q => by rw [a4v (a6l q hH)]; exact q
end
section
variable {P : Program} {w : World} {K : PySem.W.Frag} {mg : Str -> Option Value} {base : Heap} {N : List Str} {qual : Str} {scope : Scope} {f : Addr} {cd : Value} {A : Around} {outer : List Env} {s : Shared} {H : Hp} {E : XK}
end
noncomputable abbrev vE : List Value := [.type "ValueError", .type "Exception", .type "BaseException", .type "object"]
structure Exc (K : PySem.W.Frag) (C : Addr) : Prop where
 ok : PySem.W.excIn K C vE "ValueError.__new__" = true
section
variable {X : Cx} {e₀ : Expr} {rest : List Expr} {t : TA} {x : Str} {C : Addr} {E : XK} {np cpos pos : Pos}
def n4k (C : Addr) (E : XK) (t : TA) : TS := fun _ σ H => t σ H fun vs H1 => vs.length <= sizeLine /\ E (.ref C) none H1
end
structure ExcQ (K : PySem.W.Frag) (C : Addr) : Prop where
 ga : PySem.W.findIn K (.ref C) "__getattribute__" = some (some (.builtin "BaseException.__getattribute__"))
 cl : PySem.W.findIn K (.ref C) "__class__" = some (some (.builtin "object.__class__"))
 ng : PySem.W.findIn K (.ref C) "__getattr__" = some none
 so : PySem.W.subIn K (.ref C) (.type "object") = some true
 sb : PySem.W.subIn K (.ref C) (.type "BaseException") = some true
 ty : PySem.W.typeIn K (.ref C) = some (.type "type")
 ic : PySem.W.isClsIn K C = true
 ss : PySem.W.subIn K (.ref C) (.ref C) = some true
section
variable {prog : Program} {w : World} {A : Around} {E : Value -> Shared -> Prop} {h : Heap} {g : Array GenState} {d : Drawn} {t : Nat} {os : OsState} {a C : Addr} {o : Obj} {K : PySem.W.Frag}
end
noncomputable def excO (a : Addr) (C : Value) : HO := .ext fun h => ∃ o, h.get? a = some o /\ o.cls = C
section
variable {X : Cx}
end
def XPo (X : Cx) (pins : List (Addr × Obj)) (σ : St) (E : XK) (e : Value) (s' : Shared) : Prop := ∃ H1 s1, Inv X pins σ H1 s1 /\ CXE X.prog X.w X.stack H1 s1 E e s'
def PEX (X : Cx) (e : Expr) (t : TE) (E : XK) : Prop :=
 ∀ (pins : List (Addr × Obj)) (s : Shared) (σ : St) (H : Hp) (Q : VK), Inv X pins σ H s -> t σ H Q -> wpAny (model X.prog X.w) X.A (eval e X.env) (EP X pins σ Q) (XPo X pins σ E) s
def PSX (X : Cx) (st : Stmt) (t : TS) (E : XK) : Prop :=
 ∀ (pins : List (Addr × Obj)) (s : Shared) (σ : St) (H : Hp) (D : Ends), Inv X pins σ H s -> t D σ H -> wpAny (model X.prog X.w) X.A (exec st X.env) (SP X pins D) (XPo X pins σ E) s
section
variable {X : Cx} {k : Nat} {f C : Addr} {fd : FuncData} {ps : List Str} {sp : Sp} {dvs : List V} {ds : List Value} {E : XK} {x m : Str} {p pos apos : Pos} {e o : Expr} {es : List Expr} {ta : TE} {t : TA}
end
section
variable {X : Cx} {pins : List (Addr × Obj)} {σ : St} {H : Hp} {s : Shared}
end
def hAs (K : PySem.W.Frag) (D : Addr) (i : Nat) (th : TS) (Dn : Ends) (σ : St) : XK := fun C _ H' => ∃ c, C = .ref c /\ PySem.W.subIn K (.ref c) (.ref D) = some true /\
 ∀ e H2, H' e = none -> Same H' H2 -> H2 e = some (excO e (.ref c)) -> th { nx := fun σ2 H3 => Dn.nx (σ2.set i none) H3, rt := Dn.rt, bk := fun σ2 H3 => Dn.bk (σ2.set i none) H3, ct := fun σ2 H3 => Dn.ct (σ2.set i none) H3 } (σ.set i (some (.ref e))) H2
def n4l (K : PySem.W.Frag) (D : Addr) (i : Nat) (tb : XK -> TS) (th : TS) : TS := fun Dn σ H => tb (hAs K D i th Dn σ) Dn σ H
section
variable {X : Cx} {D : Addr} {dn n : Str} {i : Nat} {st b₀ : Stmt} {suite : List Stmt} {tb : XK -> TS} {th : TS} {np hpos pos : Pos}
end
def n4m : TE := fun _ H Q => New H (.dK []) Q ⟨⟩
end L2
namespace L2
open PySem PySem.Spec PyProof.Rows
section
variable {X : Cx} {tg : Expr}
noncomputable def n1t (g : Str -> Str -> V) : V -> List V -> Hp -> VK -> Prop := fun x vs H Q => match x, vs with
 | .str z, [.str y] => Q (g z y) H
 | _, _ => False
theorem g0c : MtR X "str.startswith" (n1t fun z y => .bl (Txt.startswith z y)) := by
 intro pins s σ H x xs v us Q I rx rs h
 match x, xs, h with
 | .str z, [.str y], q =>
  obtain ⟨t, rfl⟩ := rx
  obtain ⟨u, rfl, t', rfl⟩ := vals1 rs
  exact call_gives F.slot_str_startswith (typeIs_str _ _ _) F.entry_str_startswith (F.args_str_startswith_2 _ _) (gives_str_startswith z y t t') ⟨.bl (Txt.startswith z y), H, I, rfl, q⟩
noncomputable def Its (x : Str) : It := ⟨fun i _ => i < x.cps.size, fun i H v H' => H' = H /\ ∃ c, x.cps[i]? = some c /\ v = .str ⟨#[c]⟩, fun i _ => i = x.cps.size⟩
theorem l7m {P : Program} {w : World} {K : PySem.W.Frag} (it : Addr) (x : Str) (t : Tok) {n : String} (hn : ["enumerate", "zip", "dict_itemiterator", "dict_reverseitemiterator", "odict_iterator", "itertools.zip_longest", "itertools.pairwise"].contains n = false)
  (W : ∀ A' : Around, A'.handled = none -> Walks P w A' it [it] [it] x.cps.size (SignAt x) (fun i h => h.IsStrIter it n x t i))
  (S : ∀ (A : Around) (i : Nat) (s : Shared) (Q : Value -> Shared -> Prop) (E : Value -> Shared -> Prop), s.heap.IsStrIter it n x t i -> Q (.ref it) s -> wpAny (model P w) A (pyIter (.ref it)) Q E s) : Turn P w K tg (Its x) [it] it (fun i h => h.IsStrIter it n x t i) where
 mem := by simp
 obj := fun i h st b hb => by
  have e : b = it := by simpa using hb
  subst e
  obtain ⟨o, e, c, d⟩ := st
  exact ⟨o, e, fun v z => by rw [d] at z; cases z⟩
 keep := fun i h h' st k => let ⟨o, ho, r⟩ := st; ⟨o, k it (by simp) o ho, r⟩
 item := by
  intro X hP hw hK hc i pins s σ H E I hf st hg
  subst hP hw hK
  obtain ⟨f0, f1, f2, f3, f4, f5⟩ := hf it (by simp)
  refine (W _ (I.ok.hd hc)).item i s _ _ hg st fun v h' tk hv st' kk => ?_
  obtain ⟨c, u, hc', rfl⟩ := hv
  have I1 : Inv X pins σ H { s with heap := h', toks := tk } := I.turned (fun b o hb e => kk b o (by simpa using hb) e) f0 f1 f3 f4 f5
  obtain ⟨o, e1, c1, d1⟩ := id st'
  exact ⟨_, rfl, l6t (s := { s with heap := h', toks := tk }) e1 c1 d1 hn ⟨.str ⟨#[c]⟩, H, I1, ⟨u, rfl⟩, ⟨rfl, c, hc', rfl⟩, st', fun b hb => (hf b hb).1⟩⟩
 done := by
  intro X hP hw hK hc i pins s σ H E I hf st hg
  subst hP hw hK
  obtain ⟨f0, f1, f2, f3, f4, f5⟩ := hf it (by simp)
  have hi : i = x.cps.size := hg
  subst hi
  exact (W _ (I.ok.hd hc)).done s _ _ st fun h' tk kk => ⟨rfl, I.turned (t' := tk) (fun b o hb e => kk b o (by simpa using hb) e) f0 f1 f3 f4 f5⟩
 self := S
def iStr (tl : TE) : TI := fun σ H R => tl σ H fun x H1 => match x with
 | .str z => R (Its z) H1
 | _ => False
theorem m7j {l : Expr} {tl : TE} (hl : PE X l tl) : PI X tg l (iStr tl) := by
 intro pins s σ H R I h
 refine thn (hl pins s σ H _ I h) fun v s1 ⟨x, H1, I1, r1, q1⟩ => ?_
 cases x with
 | str z =>
  obtain ⟨t, rfl⟩ := r1
  have fin : ∀ (o : Obj) (n : String), ["enumerate", "zip", "dict_itemiterator", "dict_reverseitemiterator", "odict_iterator", "itertools.zip_longest", "itertools.pairwise"].contains n = false → (s1.heap.push o).IsStrIter s1.heap.objs.size n z t 0 →
    (∀ A' : Around, A'.handled = none -> Walks X.prog X.w A' s1.heap.objs.size [s1.heap.objs.size] [s1.heap.objs.size] z.cps.size (SignAt z) (fun i h => h.IsStrIter s1.heap.objs.size n z t i)) ->
    (∀ (A : Around) (i : Nat) (s : Shared) (Q : Value -> Shared -> Prop) (E : Value -> Shared -> Prop), s.heap.IsStrIter s1.heap.objs.size n z t i -> Q (.ref s1.heap.objs.size) s -> wpAny (model X.prog X.w) A (pyIter (.ref s1.heap.objs.size)) Q E s) ->
    PIE X pins σ tg R (.ref s1.heap.objs.size) { s1 with heap := s1.heap.push o } := fun o n hn st W S => by
   refine ⟨s1.heap.objs.size, [s1.heap.objs.size], _, _, H1, rfl, I1.kept (t' := s1.toks) fun b o e => Heap.get?_push_of_some _ e, l7m _ z t hn W S, st, fun b hb => ?_, q1⟩
   have e : b = s1.heap.objs.size := by simpa using hb
   subst e
   exact I1.l6i (Nat.le_refl _) (I1.hok.fresh (Nat.le_refl _))
  cases ha : z.cps.all (· < 128)
  ·exact wpAny_pyIter_wide ha (fin _ "str_iterator" (by decide) ⟨_, Heap.get?_push_size _ rfl, rfl, rfl⟩ (fun A' hA => Walks.strWide hA _ z t) fun _ _ _ _ _ st hQ => wpAny_pyIter_striter_wide st hQ)
  ·exact wpAny_pyIter_ascii ha (fin _ "str_ascii_iterator" (by decide) ⟨_, Heap.get?_push_size _ rfl, rfl, rfl⟩ (fun A' hA => Walks.strAscii hA _ z t) fun _ _ _ _ _ st hQ => wpAny_pyIter_striter_ascii st hQ)
 | _ => exact False.elim q1
theorem l7n {x : Str} {g : TG} {tb : TS} {D : Ends} {σ : St} {H : Hp} (Pv : Nat -> St -> Hp -> Prop) (h0 : Pv 0 σ H)
  (hs : ∀ i c σ H, x.cps[i]? = some c -> Pv i σ H -> g (.str ⟨#[c]⟩) σ H fun σ2 H2 => tb { D with nx := Pv (i + 1), ct := Pv (i + 1), bk := D.nx } σ2 H2) (hd : ∀ σ H, Pv x.cps.size σ H -> D.nx σ H) : m6w (Its x) g tb D σ H := by
 refine ⟨fun i m σ H => m = x.cps.size - i /\ i <= x.cps.size /\ Pv i σ H, ⟨x.cps.size, by simp, Nat.zero_le _, h0⟩, ?_⟩
 rintro i m σ H ⟨rfl, hi, p⟩
 by_cases hlt : i < x.cps.size
 ·refine .inr ⟨hlt, Pv (i + 1), fun σ' H' p' => ⟨x.cps.size - (i + 1), by omega, rfl, hlt, p'⟩, fun v H' y => ?_⟩
  obtain ⟨e, c, hc, e2⟩ := y
  subst e e2
  exact hs i c σ _ hc p
 ·have e : i = x.cps.size := by omega
  subst e
  exact .inl ⟨rfl, hd σ H p⟩
noncomputable def rSlA : V -> Option Int -> Option Int -> Hp -> VK -> Prop := fun x lo hi H Q => match x with
 | .ref a => (match H a with
  | some (.lst xs) => New H (.lst (g5j xs lo hi)) Q ⟨⟩
  | _ => False)
 | .str z => z.length <= sizeLine /\ Q (.str (Txt.slice z lo hi)) H
 | _ => False
theorem j7d : SlR X rSlA := by
 intro pins s σ H x v vl vu lo hi sl Q I rx hs pl pu h
 cases x with
 | ref a => exact sl_M pins s σ H _ v vl vu lo hi sl Q I rx hs pl pu h
 | str z =>
  obtain ⟨t, rfl⟩ := rx
  obtain ⟨hz, q⟩ := h
  have fin : ∀ t' k, EP X pins σ Q (.str (Txt.slice z lo hi) t') { s with toks := k } := fun t' k => ⟨.str _, H, I.tok k, ⟨_, rfl⟩, q⟩
  refine ⟨"str", _, F.slot_str_getitem.lookup, typeIs_str _ _ _, ?_⟩
  cases pl with
  | none =>
   cases pu with
   | none => exact wpAny_getItem_str_slice (l := none) (u := none) (st := none) hs rfl (post_val_or_str ⟨Nat.le_trans (Txt.slice_le z _ _) hz, fin⟩)
   | int j uj => exact wpAny_getItem_str_slice (l := none) (u := some (j, uj)) (st := none) hs rfl (post_val_or_str ⟨Nat.le_trans (Txt.slice_le z _ _) hz, fin⟩)
  | int i ui =>
   cases pu with
   | none => exact wpAny_getItem_str_slice (l := some (i, ui)) (u := none) (st := none) hs rfl (post_val_or_str ⟨Nat.le_trans (Txt.slice_le z _ _) hz, fin⟩)
   | int j uj => exact wpAny_getItem_str_slice (l := some (i, ui)) (u := some (j, uj)) (st := none) hs rfl (post_val_or_str ⟨Nat.le_trans (Txt.slice_le z _ _) hz, fin⟩)
 | _ => exact False.elim h
noncomputable def n1u : List V -> Hp -> VK -> Prop := fun xs H Q => match xs with
 | [.int i] => Q (.int i) H
 | [.bl k] => Q (.int (if k then 1 else 0)) H
 | [.str z] => ∃ n, PySem.intText? z = some n /\ z.length <= 640 /\ Q (.int n) H
 | _ => False
theorem g0d : c0j X (.type "int") n1u := by
 intro pins s σ H xs us Q I r h
 match xs, r, h with
 | [.int i], r, q => exact i9e pins s σ H _ us Q I r (.inl ⟨i, rfl, q⟩)
 | [.bl k], r, q => exact i9e pins s σ H _ us Q I r (.inr ⟨k, rfl, q⟩)
 | [.str z], r, ⟨n, hn, hl, q⟩ =>
  obtain ⟨u, rfl, t, rfl⟩ := vals1 r
  exact PySem.W.KIN.call_text hn hl ⟨.int n, H, I.tok _, ⟨_, rfl⟩, q⟩
noncomputable def n1v : List V -> Hp -> VK -> Prop := fun xs H Q => match xs with
 | [.int i] => i.natAbs.log2 < 1920 /\ Q (.str (toString i)) H
 | _ => False
theorem b3g : c0j X (.type "str") n1v := i9f.weak fun xs H Q h => by
 match xs, h with
 | [.int i], ⟨a, b⟩ => exact ⟨i, rfl, a, b⟩
def tFmt (te : TE) : TE := fun σ H Q => te σ H fun x H1 => match x with
 | .int i => i.natAbs.log2 < 1920 /\ Q (.str (toString i)) H1
 | .str y => y.length <= sizeLine /\ Q (.str y) H1
 | _ => False
theorem c2g {e : Expr} {te : TE} {pos : Pos} (he : PE X e te) : PE X (.FormattedValue e (-1) none pos) (tFmt te) := by
 intro pins s σ H Q I h
 refine wpAny_FormattedValue_plain (thn (he pins s σ H _ I h) fun v s1 ⟨x, H1, I1, r1, q1⟩ => ?_)
 cases x with
 | int i =>
  obtain ⟨t, rfl⟩ := r1
  exact wpAny_formatField_int q1.1 ⟨.str (toString i), H1, I1.tok _, ⟨_, rfl⟩, q1.2⟩
 | str y =>
  obtain ⟨t, rfl⟩ := r1
  exact wpAny_formatField_str (hx := q1.1) ⟨.str y, H1, I1, ⟨_, rfl⟩, q1.2⟩ ⟨.str y, H1, I1.tok _, ⟨_, rfl⟩, q1.2⟩
 | _ => exact False.elim q1
noncomputable abbrev TJ := Str -> St -> Hp -> (Str -> Hp -> Prop) -> Prop
def PJ (X : Cx) (es : List Expr) (t : TJ) : Prop := ∀ (pins : List (Addr × Obj)) (acc : Str) (s : Shared) (σ : St) (H : Hp) (Q : Str -> Hp -> Prop) (Q' : Str -> Shared -> Prop), Inv X pins σ H s -> t acc σ H Q -> (∀ out H1 s1, Inv X pins σ H1 s1 -> Q out H1 -> Q' out s1) ->
 Joins (model X.prog X.w) X.A X.xe (evalEach es X.env) acc Q' s
noncomputable def n1w : TJ := fun acc _ H Q => Q acc H
def m7k (te : TE) (tr : TJ) : TJ := fun acc σ H Q => te σ H fun x H1 => match x with
 | .str y => acc.length + y.length <= sizeLine /\ tr (acc ++ y) σ H1 Q
 | _ => False
theorem g0e : PJ X [] n1w := fun pins acc s σ H Q Q' I h k => k acc H s I h
theorem a3r {e : Expr} {es : List Expr} {te : TE} {tr : TJ} (he : PE X e te) (hr : PJ X es tr) (hs : evalEach (e :: es) X.env = eval e X.env :: evalEach es X.env := by rfl) : PJ X (e :: es) (m7k te tr) := by
 intro pins acc s σ H Q Q' I h k
 rw [hs]
 refine thn (he pins s σ H _ I h) fun v s1 ⟨x, H1, I1, r1, q1⟩ => ?_
 cases x with
 | str y =>
  obtain ⟨t, rfl⟩ := r1
  exact ⟨y, t, rfl, by rw [strLen_append]; exact q1.1, hr pins (acc ++ y) s1 σ H1 Q Q' I1 q1.2 k⟩
 | _ => exact False.elim q1
def n1x (tj : TJ) : TE := fun σ H Q => tj Str.empty σ H fun out H1 => out.length <= sizeLine /\ Q (.str out) H1
theorem b5r {e₁ e₂ : Expr} {es : List Expr} {tj : TJ} {pos : Pos} (h : PJ X (e₁ :: e₂ :: es) tj) : PE X (.JoinedStr (e₁ :: e₂ :: es) pos) (n1x tj) := by
 intro pins s σ H Q I hq
 exact wpAny_JoinedStr (h pins Str.empty s σ H _ _ I hq fun out H1 s1 I1 q => ⟨q.1, .str out, H1, I1.tok _, ⟨_, rfl⟩, q.2⟩)
noncomputable def c0n (x y : Str) : List Str := if (decide (x.length < y.length) || decide (Builtin.Str.strKind x < Builtin.Str.strKind y)) = true then [x] else if (Builtin.Str.occurrences x y 0 x.length (x.length + 1)).isEmpty = true then [x] else Builtin.Str.partsBetween x (Builtin.Str.occurrences x y 0 x.length (x.length + 1)) y.length
noncomputable def m7l : V -> List V -> Hp -> VK -> Prop := fun x vs H Q => match x, vs with
 | .str z, [.str y] => (y.length == 0) = false /\ z.length <= sizeLine /\ (c0n z y).length <= sizeLine /\ New H (.lst ((c0n z y).map V.str)) Q ⟨⟩
 | _, _ => False
theorem i9x : ∀ (l : List Str) (k : Nat), Vals (l.map V.str) (strsFrom k l)
 | [], _ => .nil
 | x :: l, k => .cons ⟨_, rfl⟩ (i9x l (k + 1))
theorem g9x : MtR X "str.split" m7l := by
 intro pins s σ H x xs v us Q I rx rs h
 match x, xs, h with
 | .str z, [.str y], ⟨hy, hz, hn, q⟩ =>
  obtain ⟨t, rfl⟩ := rx
  obtain ⟨u, rfl, t', rfl⟩ := vals1 rs
  have fr : H s.heap.objs.size = none := I.hok.fresh (Nat.le_refl _)
  have itself : c0n z y = [z] → EP X pins σ Q (.ref s.heap.objs.size) { s with heap := s.heap.push { cls := .type "list", data := .seq [Value.str z t].toArray } } := fun e => by
   rw [e] at q
   exact ⟨.ref _, _, I.laid (o := .lst ([z].map V.str)) (t' := s.toks) (fun b u e => Heap.get?_push_of_some _ e) (Nat.le_refl _) ⟨show 1 <= sizeLine by decide, [Value.str z t], 0, .cons ⟨t, rfl⟩ .nil, Heap.get?_push_size _ rfl⟩, rfl, q.raw _ fr⟩
  by_cases h1 : (decide (z.length < y.length) || decide (Builtin.Str.strKind z < Builtin.Str.strKind y)) = true
  ·exact call_meets F.slot_str_split (typeIs_str _ _ _) F.entry_str_split (F.args_str_split_2 _ _) (meets_str_split_cannot_occur z y t t' h1) (itself (by unfold c0n; rw [if_pos h1]))
  ·have h1' := Bool.eq_false_iff.mpr h1
   by_cases h2 : (Builtin.Str.occurrences z y 0 z.length (z.length + 1)).isEmpty = true
   ·exact call_meets F.slot_str_split (typeIs_str _ _ _) F.entry_str_split (F.args_str_split_2 _ _) (meets_str_split_not_found z y t t' h1' hy h2) (itself (by unfold c0n; rw [if_neg h1, if_pos h2]))
   ·have h2' := Bool.eq_false_iff.mpr h2
    have e : c0n z y = Builtin.Str.partsBetween z (Builtin.Str.occurrences z y 0 z.length (z.length + 1)) y.length := by unfold c0n; rw [if_neg h1, if_neg h2]
    refine call_meets F.slot_str_split (typeIs_str _ _ _) F.entry_str_split (F.args_str_split_2 _ _) (meets_str_split_sep z y t t' h1' hy h2' hz (by rw [<- e]; exact hn)) ?_
    rw [<- e]
    refine ⟨.ref _, _, I.laid (o := .lst ((c0n z y).map V.str)) (t' := s.toks + (c0n z y).length) (fun b u e => Heap.get?_push_of_some _ e) (Nat.le_refl _) ⟨by rw [List.length_map]; exact hn, strsFrom s.toks (c0n z y), 0, i9x _ _, Heap.get?_push_size _ rfl⟩, rfl, q.raw _ fr⟩
noncomputable def n0i (z y : Str) : Bool := !(Builtin.Str.occurrences z y 0 z.length 1).isEmpty
def rInM (neg : Bool) : R2 := fun x y H Q => match y with
 | .str z => (match x with
  | .str y => Q (.bl (n0i z y != neg)) H
  | _ => False)
 | .ref p => (match H p with
  | some (.lst xs) => f4h x = true /\ xs.all f4h = true /\ Q (.bl (inV x xs != neg)) H
  | some (.tup xs) => f4h x = true /\ xs.all f4h = true /\ Q (.bl (inV x xs != neg)) H
  | _ => False)
 | _ => False
theorem l2o : OpR X (compareOp .NotIn) (rInM true) := by
 intro pins s σ H x y v u Q I rx ry h
 cases y with
 | str z =>
  cases x with
  | str y =>
   have h : Q (.bl (n0i z y != true)) H := h
   rw [Bool.bne_true] at h
   exact i9l pins s σ H _ _ v u Q I rx ry ⟨y, z, rfl, rfl, h⟩
  | _ => exact False.elim h
 | ref p =>
  have h : (match H p with
   | some (.lst xs) => f4h x = true /\ xs.all f4h = true /\ Q (.bl (inV x xs != true)) H
   | some (.tup xs) => f4h x = true /\ xs.all f4h = true /\ Q (.bl (inV x xs != true)) H
   | _ => False) := h
  split at h
  ·rename_i xs e
   rw [Bool.bne_true] at h
   exact g5k pins s σ H _ _ v u Q I rx ry ⟨p, xs, rfl, .inl (SqL.of e), h.1, h.2.1, by simpa using h.2.2⟩
  ·rename_i xs e
   rw [Bool.bne_true] at h
   exact g5k pins s σ H _ _ v u Q I rx ry ⟨p, xs, rfl, .inr (SqT.of e), h.1, h.2.1, by simpa using h.2.2⟩
  ·exact h.elim
 | _ => exact False.elim h
end
end L2
namespace L2
open PySem PySem.Spec PyProof.Rows
def Wr (H : Hp) (a : Addr) (o : HO) (k : Hp -> Prop) (_ : Tag k) : Prop := ∀ H1, a6j a H H1 -> H1 a = some o -> k H1
section
variable {X : Cx} {e o value : Expr} {f m x : Str} {pos pos' apos : Pos} {ta tv : TE} {t : TA} {C : Addr} {es : List Expr}
def m1u (K : PySem.W.Frag) (ta : TE) (f : Str) : TE := fun σ H Q => ta σ H fun x H1 => match x with
 | .ref a => (match H1 a with
  | some (.ins C dx fs) => Cls K C /\ a8n K C f /\ (match fs.lookup f with
   | some v => Q v H1
   | none => False)
  | _ => False)
 | _ => False
theorem a2p (he : PE X e ta) (hb : attributeBase e f X.env (eval e X.env) = eval e X.env) : PE X (.Attribute e f pos) (m1u X.K ta f) := by
 intro pins s σ H Q I h
 refine (m6e he hb) pins s σ H Q I ?_
 unfold n3r
 unfold m1u at h
 have q : (fun (x : V) (H1 : Hp) => (match x with
   | .ref a => (match H1 a with
    | some (.ins C dx fs) => Cls X.K C /\ a8n X.K C f /\ (match fs.lookup f with
     | some v => Q v H1
     | none => False)
    | _ => False)
   | _ => False : Prop)) = fun x H1 => ∃ a C dx fs v, x = .ref a /\ H1 a = some (.ins C dx fs) /\ Cls X.K C /\ a8n X.K C f /\ fs.lookup f = some v /\ Q v H1 := by
  funext x H1
  refine propext ⟨fun z => ?_, fun ⟨a, C, dx, fs, v, e1, e2, c, n, l, q⟩ => ?_⟩
  ·cases x with
   | ref a =>
    dsimp only at z
    split at z
    ·rename_i C dx fs e1
     obtain ⟨c, n, z⟩ := z
     split at z
     ·rename_i v e2
      exact ⟨a, C, dx, fs, v, rfl, e1, c, n, e2, z⟩
     ·exact z.elim
    ·exact z.elim
   | _ => exact False.elim z
  ·subst e1
   dsimp only
   rw [e2]
   dsimp only
   rw [l]
   exact ⟨c, n, q⟩
 rw [q] at h
 exact h
def n1y (K : PySem.W.Frag) (ta tv : TE) (f : Str) : TS := fun D σ H => tv σ H fun y H1 => ta σ H1 fun x H2 => match x with
 | .ref a => (match H2 a with
  | some (.ins C dx fs) => Cls K C /\ a8n K C f /\ fs.length < 1000 /\ Wr H2 a (.ins C dx (h0j f y fs)) (D.nx σ) ⟨⟩
  | _ => False)
 | _ => False
theorem b0s (ha : PE X o ta) (hv : PE X value tv) (hs : swapsWith value (some (.Attribute o f pos')) pos.line X.env = pure false) : PS X (.Assign [.Attribute o f pos'] value pos) (n1y X.K ta tv f) := by
 intro pins s σ H D I h
 refine plainObj_wpAny_Assign_Attribute (thn (hv pins s σ H _ I h) fun u s1 ⟨y, H1, I1, ry, q⟩ => thn (ha pins s1 σ H1 _ I1 q) fun ov s2 ⟨x, H2, I2, rx, z⟩ => ?_) hs
 cases x with
 | ref a =>
  obtain rfl : ov = Value.ref a := rx
  dsimp only at z
  split at z
  ·rename_i C dx fs e1
   obtain ⟨c, n, l, k⟩ := z
   exact k5o I2 e1 c n l ry fun s3 I3 => ⟨σ, _, I3, k _ a6j.upd a5l⟩
  ·exact z.elim
 | _ => exact False.elim z
end
def a3o (C : Addr) (m : Str) (sp : Sp) (dvs : List V) (E : XK) (ta : TE) (t : TA) : TE := fun σ H Q => ta σ H fun x H1 => match x with
 | .ref a => (match H1 a with
  | some (.ins C' dx fs) => C' = C /\ fs.lookup m = none /\ t σ H1 fun vs H2 => sp (x :: (vs ++ dvs)) H2 Q E
  | _ => False)
 | _ => False
section
variable {X : Cx} {CX : CXT} {k : Nat} {f C : Addr} {fd : FuncData} {ps : List Str} {sp : Sp} {dvs : List V} {ds : List Value} {E : XK} {x m : Str} {p pos apos : Pos} {e o : Expr} {es : List Expr} {ta : TE} {t : TA}
theorem a8y {pl : Sem Bool} (he : PE X o ta) (c : Cls X.K C) (hm : Meth X.K C m f) (F : a1s X.prog X.w X.K X.mg X.base CX k f fd ps sp) (hr : a2q k X.A) (hb : Binds X.K fd ps ds) (hd : Vals dvs ds) (hx : Passes CX X E) (ha : PA X (e :: es) t)
  (hst : starEach (e :: es) X.env = (false, eval e X.env) :: starEach es X.env := by rfl) (hpl : (backTo pos (starEach es X.env)).any (·.1) = false := by rfl)
  (ht : eval (.Call (.Attribute o m apos) (e :: es) [] pos) X.env = (do
   let ov <- eval o X.env
   standAt apos.atName
   let (f, first) <- holding [ov] (getMethod ov m pl)
   callWith pos f first (backTo pos (starEach (e :: es) X.env)) (backToKw pos (keywordEach [] X.env))) := by rfl) :
  PE X (.Call (.Attribute o m apos) (e :: es) [] pos) (a3o C m sp dvs E ta t) := by
 intro pins s σ H Q I h
 refine PySem.W.methodCall_KW (pl := pl) (thn (he pins s σ H _ I h) fun u s1 ⟨x, H1, I1, rx, z⟩ => ?_) ht
 cases x with
 | ref a =>
  obtain rfl : u = Value.ref a := rx
  dsimp only at z
  split at z
  ·rename_i C' dx fs ea
   obtain ⟨rfl, l, q⟩ := z
   refine i0g I1 ea c hm l ?_
   refine PySem.W.callWith_K (first := [.ref a]) (h₀ := X.base) I.ok.mod.kin hm.kp (thn (ha pos pins s1 σ H1 _ I1 q) fun us s2 ⟨vs, H2, I2, r, q2⟩ => ⟨I2.kIn, ?_⟩) hst hpl
   exact k3z (us := .ref a :: us) (vs := .ref a :: vs) F hr hb hd hx I2 (.cons rfl r) q2
  ·exact z.elim
 | _ => exact False.elim z
theorem a0n {pl : Sem Bool} (he : PE X o ta) (c : Cls X.K C) (hm : Meth X.K C m f) (F : a1s X.prog X.w X.K X.mg X.base CX k f fd ps sp) (hr : a2q k X.A) (hb : Binds X.K fd ps ds) (hd : Vals dvs ds) (hx : Passes CX X E)
  (ht : eval (.Call (.Attribute o m apos) [] [] pos) X.env = (do
   let ov <- eval o X.env
   standAt apos.atName
   let (f, first) <- holding [ov] (getMethod ov m pl)
   callWith pos f first (backTo pos (starEach [] X.env)) (backToKw pos (keywordEach [] X.env))) := by rfl) :
  PE X (.Call (.Attribute o m apos) [] [] pos) (a3o C m sp dvs E ta d7w) := by
 intro pins s σ H Q I h
 refine PySem.W.methodCall_KW (pl := pl) (thn (he pins s σ H _ I h) fun u s1 ⟨x, H1, I1, rx, z⟩ => ?_) ht
 cases x with
 | ref a =>
  obtain rfl : u = Value.ref a := rx
  dsimp only at z
  split at z
  ·rename_i C' dx fs ea
   obtain ⟨rfl, l, q⟩ := z
   refine i0g I1 ea c hm l ?_
   exact PySem.W.callWith_K0 (first := [.ref a]) I1.kIn hm.kp (k3z (us := [.ref a]) (vs := [.ref a]) F hr hb hd hx I1 (.cons rfl .nil) q)
  ·exact z.elim
 | _ => exact False.elim z
def n1z (H : Hp) (C : Addr) (k : Addr -> Hp -> Prop) (_ : Tag k) : Prop := ∀ x dx H1, H x = none -> H dx = none -> dx ≠ x -> Same H H1 -> H1 dx = some (.own x) -> H1 x = some (.ins C dx []) -> k x H1
def m7m (x : Addr) (Q : VK) : VK := fun v H2 => v = .non /\ Q (.ref x) H2
theorem asNew {x : Addr} {Q : VK} {H2 : Hp} {v : V} : m7m x Q v H2 = (v = .non /\ Q (.ref x) H2) := rfl
def m7n (C : Addr) (sp : Sp) (dvs : List V) (E : XK) (t : TA) : TE := fun σ H Q => t σ H fun vs H1 => n1z H1 C (fun x H2 => sp (.ref x :: (vs ++ dvs)) H2 (m7m x Q) E) ⟨⟩
theorem n1z.raw {H : Hp} {C : Addr} {k : Addr -> Hp -> Prop} {t : Tag k} (h : n1z H C k t) : ∀ x dx, H x = none -> H dx = none -> dx ≠ x -> k x (upd (upd H dx (.own x)) x (.ins C dx [])) := fun x dx ex ed ne =>
 h x dx _ ex ed ne ((Same.upd ed).trans (Same.upd (by rw [a4v ne.symm]; exact ex))) (by rw [a4v ne]; exact a5l) a5l
theorem c7q (M : Mk X.K C f) (F : a1s X.prog X.w X.K X.mg X.base CX k f fd ps sp) (hr : a2q (k + 1) X.A) (hg : Gl X x) (hm : X.mg x = some (.ref C)) (hb : Binds X.K fd ps ds) (hd : Vals dvs ds) (hx : Passes CX X E)
  (ha : PA X (e :: es) t) (hdb : (x == ("__debug__" : Str)) = false := by decide) (he : starEach (e :: es) X.env = (false, eval e X.env) :: starEach es X.env := by rfl) (hpl : (backTo pos (starEach es X.env)).any (·.1) = false := by rfl) :
  PE X (.Call (.Name x p) (e :: es) [] pos) (m7n C sp dvs E t) := by
 intro pins s σ H Q I h
 refine wpAny_Call_Name_kw (j6v I hg hm ?_ hdb)
 refine PySem.W.callWith_K (h₀ := X.base) I.ok.mod.kin M.kp (thn (ha pos pins s σ H _ I h) fun us s1 ⟨vs, H1, I1, r, q⟩ => ⟨I1.kIn, ?_⟩) he hpl
 exact l6y M F hr hb hd hx I1 r q.raw
end
def n0j (K : PySem.W.Frag) (ta tv : TE) (rd : V -> V -> Hp -> VK -> Prop) (f : Str) : TS := fun D σ H => ta σ H fun x H1 => match x with
 | .ref a => (match H1 a with
  | some (.ins C dx fs) => Cls K C /\ a8n K C f /\ (match fs.lookup f with
   | some v => tv σ H1 fun y H2 => rd v y H2 fun z H3 => (match H3 a with
    | some (.ins C' dx' fs') => C' = C /\ fs'.length < 1000 /\ Wr H3 a (.ins C dx' (h0j f z fs')) (D.nx σ) ⟨⟩
    | _ => False)
   | none => False)
  | _ => False)
 | _ => False
section
variable {X : Cx} {o e value : Expr} {f : Str} {pos pos' tpos : Pos} {ta tv : TE}
end
noncomputable def n4n (g : Int -> Int -> Int) : V -> V -> Hp -> VK -> Prop := fun x y H Q => match x, y with
 | .int i, .int j => Q (.int (g i j)) H
 | _, _ => False
def m7o (i : Nat) (te : TE) (ti : TIp) : TS := fun D σ H => match σ[i]? with
 | some (some x) => te σ H fun y H1 => ti x y H1 fun z H2 => D.nx (σ.set i (some z)) H2
 | _ => False
section
variable {X : Cx} {pos : Pos}
theorem m1v : n3s X .Add (n4n fun i j => i + j) := by
 intro pins s σ H x y u v Q I rx ry h
 cases x <;> cases y <;> try exact False.elim h
 exact m6f pins s σ H _ _ u v Q I rx ry ⟨_, _, rfl, rfl, h⟩
theorem m1w : PIp X .Add (n4n fun i j => i + j) := fun pins s σ H x y u v Q I rx ry h => m1v pins s σ H x y u v Q I rx ry h
theorem m1x {i : Nat} {x : Str} {e : Expr} {te : TE} {op : Operator} {ti : TIp} {pos' : Pos} (hN : X.N.Nodup) (hi : X.N[i]? = some x) (hx : Loc X.env.scope x) (he : PE X e te) (ho : PIp X op ti) (hf : X.fn x = true \/ X.env.scope.names.lookup x = some .local := by first | exact .inl rfl | exact .inr rfl | assumption) :
  PS X (.AugAssign (.Name x pos') op e pos) (m7o i te ti) := by
 intro pins s σ H D I h
 refine m5u hN hi hx he ho hf pins s σ H D I ?_
 unfold m7o at h
 split at h
 ·rename_i v e1
  exact ⟨v, e1, h⟩
 ·exact h.elim
end
theorem lookup_same {f : Str} {v : V} {r : List (Str × V)} : List.lookup f ((f, v) :: r) = some v := by rw [List.lookup_cons, beq_self_eq_true]
theorem m7p {f : Str} {v x : V} {r : List (Str × V)} : h0j f v ((f, x) :: r) = (f, v) :: r := by rw [h0j, if_pos rfl]
theorem n0k {f : Str} {v : V} : h0j f v [] = [(f, v)] := rfl
theorem m0g {f g : Str} {v : V} {r : List (Str × V)} (h : (f == g) = false) : List.lookup f ((g, v) :: r) = r.lookup f := by rw [List.lookup_cons, h]
theorem m5a {f g : Str} {v x : V} {r : List (Str × V)} (h : (f == g) = false) : h0j f v ((g, x) :: r) = (g, x) :: h0j f v r := by rw [h0j, if_neg fun e => by rw [e, beq_self_eq_true] at h; exact Bool.noConfusion h]
theorem noxK {X : Cx} : X.nox.K = X.K := rfl
end L2
namespace L2
open PySem PySem.Spec PyProof.Rows
structure m7q (k : Nat) (A : Around) : Prop where
 dp : A.depth + 3 * k + 5 < recursionLimit
 un : A.units + 16 * k + 200 < cLine
theorem a2q.h {k : Nat} {A : Around} (r : a2q k A) : m7q k A := ⟨r.dp, r.un⟩
structure FnOkH (P : Program) (w : World) (K : PySem.W.Frag) (mg : Str -> Option Value) (base : Heap) (k : Nat) (f : Addr) (fd : FuncData) (ps : List Str) (sp : Sp) : Prop where
 len : ∀ vs H Q E, sp vs H Q E -> vs.length = ps.length
 run : ∀ (A : Around) (outer : List Env) (s : Shared) (H : Hp) (args : Args) (us : List Value) (vs : List V) (Q : VK) (E : XK), m7q k A -> l9t P w K mg base A outer s H -> BindsTo s fd args (ps.zip us) -> Vals vs us -> sp vs H Q E ->
  codeAny (model P w) A (.call (.ref f) args) (CR CX0 outer P w H s Q E) s
section
variable {X : Cx} {k : Nat} {f : Addr} {fd : FuncData} {ps : List Str} {sp : Sp} {dvs : List V} {ds : List Value} {x : Str} {p pos : Pos} {e : Expr} {es : List Expr} {t : TA}
end
end L2
namespace L2
open PySem PySem.Spec PyProof.Rows
open PySem.Builtin.Str (occurrences subAt partsBetween strSub)
noncomputable abbrev sg (x : Str) : List Nat := x.cps.toList
theorem c7r {x y : Str} (h : sg x = sg y) : x = y := Str.ext' (by
 have := congrArg List.toArray h
 simpa using this)
theorem a3z (x y : Str) : sg (x ++ y) = sg x ++ sg y := by unfold sg; rw [Str.cps_append]; simp
theorem d8j (x : Str) : (sg x).length = x.length := by simp [Str.length]
theorem m0h {x : Str} {c i : Nat} : StrLaws.At x ⟨#[c]⟩ x.length i ↔ (sg x)[i]? = some c := StrLaws.subAt_one x c i
theorem h0w {c : Nat} : (⟨#[c]⟩ : Str).length = 1 := rfl
theorem m0i (x : Str) (i j : Nat) : sg (strSub x i j) = ((sg x).drop i).take (j - i) := StrLaws.strSub_toList x i j
theorem l7o {x : Str} {c : Nat} {a b : List Nat} (hk : c < 128) (h : sg x = a ++ c :: b) (ha : c ∉ a) (hb : c ∉ b) : c0n x ⟨#[c]⟩ = [⟨a.toArray⟩, ⟨b.toArray⟩] := by
 have hl : x.length = a.length + (b.length + 1) := by rw [<- d8j, h]; simp
 have k1 : ¬ ((decide (x.length < (⟨#[c]⟩ : Str).length) || decide (Builtin.Str.strKind x < Builtin.Str.strKind ⟨#[c]⟩)) = true) := by
  have e : Builtin.Str.strKind ⟨#[c]⟩ = 1 := by
   unfold Builtin.Str.strKind
   rw [if_pos (by simp; omega)]
  have g : 1 <= Builtin.Str.strKind x := by
   unfold Builtin.Str.strKind
   split
   ·decide
   ·split <;> decide
  rw [e, h0w]
  simp only [Bool.or_eq_true, decide_eq_true_eq]
  omega
 have only : ∀ i, StrLaws.At x ⟨#[c]⟩ x.length i -> i = a.length := by
  intro i hi
  have hi := m0h.mp hi
  rw [h] at hi
  rcases Nat.lt_trichotomy i a.length with q | q | q
  ·rw [List.getElem?_append_left q] at hi
   exact absurd (List.mem_of_getElem? hi) ha
  ·exact q
  ·rw [List.getElem?_append_right (Nat.le_of_lt q)] at hi
   obtain ⟨j, hj⟩ : ∃ j, i - a.length = j + 1 := ⟨i - a.length - 1, by omega⟩
   rw [hj, List.getElem?_cons_succ] at hi
   exact absurd (List.mem_of_getElem? hi) hb
 have there : StrLaws.At x ⟨#[c]⟩ x.length a.length := m0h.mpr (by rw [h, List.getElem?_append_right (Nat.le_refl _), Nat.sub_self]; rfl)
 obtain ⟨f, ch⟩ := StrLaws.occ_chain x ⟨#[c]⟩ (x.length + 1)
 have ho : occurrences x ⟨#[c]⟩ 0 x.length (x.length + 1) = [a.length] := by
  rcases StrLaws.occ_head x ⟨#[c]⟩ (x.length + 1) (by omega) with ⟨h0, hn⟩ | ⟨i, r, h0, hi, hn⟩
  ·exact absurd there (hn _)
  ·rw [h0] at ch ⊢
   have e := only i hi
   subst e
   cases r with
   | nil => rfl
   | cons j r =>
    obtain ⟨_, _, q1, q2, _⟩ := ch
    have := only j q2
    rw [h0w] at q1
    omega
 unfold c0n
 rw [if_neg k1, ho, if_neg (by simp)]
 simp only [partsBetween, List.map_cons, List.map_nil, List.cons_append, List.nil_append, List.zip_cons_cons, List.zip_nil_right, List.cons.injEq, and_true]
 constructor
 ·refine c7r ?_
  rw [m0i, h]
  simp
 ·refine c7r ?_
  rw [m0i, h0w, h, hl]
  have e : (a ++ c :: b).drop (a.length + 1) = b := by rw [List.drop_append]; simp
  rw [e, List.take_of_length_le (by omega)]
open PySem.NumText (AllDigits digitsVal digitsVal_snoc)
noncomputable def dg (n : Nat) : List Nat := (Nat.toDigits 10 n).map Char.toNat
theorem k4f (n : Nat) : digitsVal (dg n) = n := PySem.W.KIN.val_back n
theorem j7e {n : Nat} (h : n < 10) : dg n = [n + 48] := by
 have : ∀ d, d < 10 -> dg d = [d + 48] := by decide
 exact this n h
theorem h0x {m c : Nat} (hm : 0 < m) (hc : c < 10) : dg (10 * m + c) = dg m ++ [c + 48] := by
 have t : Nat.toDigits 10 m ++ Nat.toDigits 10 c = Nat.toDigits 10 (10 * m + c) := Nat.toDigits_append_toDigits (by decide) hm hc
 unfold dg
 rw [<- t, List.map_append]
 have := j7e hc
 unfold dg at this
 rw [this]
theorem l2p (n : Nat) : dg n ≠ [] := by
 by_cases h : n < 10
 ·rw [j7e h]; simp
 ·have e : n = 10 * (n / 10) + n % 10 := by omega
  rw [e, h0x (by omega) (by omega)]
  simp
theorem f4k (n : Nat) : AllDigits (dg n) := by
 induction n using Nat.strongRecOn with
 | _ n ih =>
  by_cases h : n < 10
  ·rw [j7e h]
   intro c hc
   simp at hc
   omega
  ·have e : n = 10 * (n / 10) + n % 10 := by omega
   rw [e, h0x (by omega) (by omega)]
   intro c hc
   rcases List.mem_append.mp hc with q | q
   ·exact ih (n / 10) (by omega) c q
   ·simp at q
    omega
theorem m1y {n : Nat} (h : 0 < n) : ∃ c r, dg n = c :: r /\ c ≠ 48 := by
 induction n using Nat.strongRecOn with
 | _ n ih =>
  by_cases q : n < 10
  ·exact ⟨n + 48, [], j7e q, by omega⟩
  ·obtain ⟨c, r, e, hc⟩ := ih (n / 10) (by omega) (by omega)
   have e2 : n = 10 * (n / 10) + n % 10 := by omega
   refine ⟨c, r ++ [n % 10 + 48], ?_, hc⟩
   conv => lhs; rw [e2]
   rw [h0x (by omega) (by omega), e]
   rfl
theorem m0j : ∀ {ds : List Nat}, AllDigits ds -> digitsVal ds < 10 ^ ds.length := by
 intro ds
 generalize hn : ds.length = n
 induction n generalizing ds with
 | zero => intro _; rw [List.length_eq_zero_iff.mp hn]; decide
 | succ n ih =>
  intro hd
  have hne : ds ≠ [] := fun e => by rw [e] at hn; cases hn
  have e : ds = ds.dropLast ++ [ds.getLast hne] := (List.dropLast_concat_getLast hne).symm
  generalize ds.dropLast = cs at e
  generalize ds.getLast hne = c at e
  subst e
  have hc := hd c (by simp)
  have := ih (ds := cs) (by simp at hn; exact hn) fun d hd' => hd d (by simp [hd'])
  rw [digitsVal_snoc, Nat.pow_succ]
  omega
noncomputable def txt (t : Int) : List Nat := if t < 0 then 45 :: dg t.natAbs else dg t.natAbs
theorem d6w (t : Int) : sg (Str.ofString (toString t)) = txt t := by
 unfold txt
 match t with
 | .ofNat m => exact PySem.W.KIN.signs_num m
 | .negSucc m =>
  rw [if_pos (Int.negSucc_lt_zero m)]
  unfold sg
  rw [signs_ofString]
  show (("-" ++ Nat.repr (m + 1)).toList.map Char.toNat) = _
  rw [String.toList_append, List.map_append, Nat.toList_repr]
  rfl
theorem g1x {x : Str} {t : Int} (h : sg x = txt t) (hl : x.length <= 4300) : PySem.intText? x = some t := by
 unfold txt at h
 split at h
 ·rename_i ht
  have := intText_neg h (f4k _) (l2p _) hl
  rw [k4f] at this
  rw [this]
  congr 1
  omega
 ·rename_i ht
  have := intText_digits (x := x) (by rw [show x.cps.toList = sg x from rfl, h]; exact f4k _) (by rw [show x.cps.toList = sg x from rfl, h]; exact l2p _) hl
  rw [show x.cps.toList = sg x from rfl, h, k4f] at this
  rw [this]
  congr 1
  omega
theorem m7r (n : Nat) : (dg n).length <= n.log2 + 1 := by
 induction n using Nat.strongRecOn with
 | _ n ih =>
  by_cases h : n < 10
  ·rw [j7e h]; simp
  ·have e : n = 10 * (n / 10) + n % 10 := by omega
   have i := ih (n / 10) (by omega)
   have k : (n / 10).log2 + 1 <= n.log2 := by
    rw [Nat.le_log2 (by omega), Nat.pow_succ]
    have := Nat.log2_self_le (n := n / 10) (by omega)
    omega
   have z := h0x (m := n / 10) (c := n % 10) (by omega) (by omega)
   rw [<- e] at z
   rw [z]
   rw [List.length_append]
   simp only [List.length_cons, List.length_nil]
   omega
theorem j7f (t : Int) : (txt t).length <= t.natAbs.log2 + 2 := by
 have := m7r t.natAbs
 unfold txt
 split
 ·rw [List.length_cons]; omega
 ·omega
noncomputable def l7p (t b : Int) : List Nat := txt t ++ 47 :: txt b
structure Good (x : List Nat) (t b : Int) : Prop where
 eq : x = l7p t b
 pos : 0 < b
 low : Int.gcd t b = 1
 l1 : (dg t.natAbs).length <= 9
 l2 : (dg b.natAbs).length <= 9
noncomputable def l2q (l : List Nat) : Bool := l.all (fun c => decide (48 <= c) && decide (c <= 57)) && !l.isEmpty
theorem i2f {l : List Nat} : l2q l = true ↔ AllDigits l /\ l ≠ [] := by
 unfold l2q AllDigits
 simp
theorem m1z (c : Nat) : n0i "0123456789" ⟨#[c]⟩ = (decide (48 ≤ c) && decide (c ≤ 57)) := by
 unfold n0i
 rw [StrLaws.found_one]
 have e : (Str.ofString "0123456789").cps.toList = [48, 49, 50, 51, 52, 53, 54, 55, 56, 57] := by decide +kernel
 rw [e]
 by_cases h : 48 <= c /\ c <= 57
 ·rw [show (decide (48 <= c) && decide (c <= 57)) = true by simp [h]]
  rw [decide_eq_true_eq]
  simp
  omega
 ·rw [show (decide (48 <= c) && decide (c <= 57)) = false by simp; omega]
  rw [decide_eq_false_iff_not]
  simp
  omega
theorem f4l {t : Int} {c : Nat} (h1 : c ≠ 45) (h2 : c < 48 \/ 57 < c) : c ∉ txt t := by
 unfold txt
 intro h
 split at h
 ·rcases List.mem_cons.mp h with q | q
  ·exact h1 q
  ·have := f4k _ c q; omega
 ·have := f4k _ c h; omega
theorem m7s (t : Int) : (txt t).length <= (dg t.natAbs).length + 1 := by
 unfold txt
 split
 ·rw [List.length_cons]; exact Nat.le_refl _
 ·exact Nat.le_succ _
theorem m0k (x : Str) (c : Nat) : Txt.startswith x ⟨#[c]⟩ = decide ((sg x)[0]? = some c) := by
 unfold Txt.startswith
 rw [Bool.eq_iff_iff, Bool.and_eq_true, decide_eq_true_eq, decide_eq_true_eq]
 exact StrLaws.subAt_one x c 0
theorem m7t {x : Str} {t : Int} (h : sg x = txt t) : Txt.startswith x ⟨#[45]⟩ = decide (t < 0) := by
 rw [m0k, h]
 unfold txt
 split
 ·rename_i q
  simp [q]
 ·rename_i q
  rw [decide_eq_false q, decide_eq_false_iff_not]
  intro e
  have := f4k _ 45 (List.mem_of_getElem? e)
  omega
theorem m2a {x : Str} {i : Nat} (h : i <= x.length) : sg (Txt.slice x (some (i : Int)) none) = (sg x).drop i := by
 rw [slice_from_eq (b := (x.length : Int)) (by omega) (by omega) rfl]
 simp only [sg, Int.toNat_natCast]
 rw [List.take_of_length_le]
 rw [List.length_drop]
 have := d8j x
 unfold sg at this
 omega
end L2
namespace L2
open PySem PySem.Spec PyProof.Rows
section
variable {X : Cx}
noncomputable def m7u (K : PySem.W.Frag) : List V -> Hp -> VK -> Prop := fun xs H Q => match xs with
 | [.ref p] => (match H p with
  | some (.lst ys) => New H (.tup ys) Q ⟨⟩
  | some (.tup ys) => Q (.ref p) H
  | _ => False)
 | _ => False
theorem g0f : c0j X (.type "tuple") (m7u X.K) := i2d.weak fun xs H Q h => by
 match xs, h with
 | [.ref p], h =>
  unfold m7u at h
  dsimp only at h
  split at h
  ·rename_i ys e
   exact ⟨p, ys, rfl, .inl ⟨SqL.of e, h.raw⟩⟩
  ·rename_i ys e
   exact ⟨p, ys, rfl, .inr ⟨SqT.of e, h⟩⟩
  ·exact h.elim
end
section
variable {X : Cx}
structure InsQ (K : PySem.W.Frag) (C : Addr) : Prop where
 ha : PySem.W.findIn K (.ref C) "__class__" = some (some (.builtin "object.__class__"))
 hn : PySem.W.specialIn K (.builtin "object.__class__") "__get__" = some (some (.builtin "getset_descriptor.__get__"))
 htk : PySem.W.takesIn K (.builtin "object.__class__") = some true
 hm : PySem.W.mroIn K C (.type "object") = some true
noncomputable def rIsI (K : PySem.W.Frag) : List V -> Hp -> VK -> Prop := fun xs H Q => match xs with
 | [.ref a, .ref D] => (match H a with
  | some (.ins C dx fs) => Cls K C /\ InsQ K C /\ (match PySem.W.kitOne K (.ref C) (.ref D) with
   | some b => Q (.bl b) H
   | none => False)
  | _ => False)
 | _ => False
end
section
variable {X : Cx} {pos : Pos}
noncomputable def n2a : List V -> Hp -> VK -> Prop := fun xs H Q => match xs with
 | [.int i, .int j] => (0 < j /\ j < 1073741824) /\ New H (.tup [.int (i / j), .int (i % j)]) Q ⟨⟩
 | _ => False
noncomputable def m7v : TGs := fun vs σ H Q => match vs with
 | [] => Q σ H
 | _ => False
def m0l (t : TG) (u : TGs) : TGs := fun vs σ H Q => match vs with
 | v :: r => t v σ H fun σ' H' => u r σ' H' Q
 | _ => False
def m7w (n : Nat) (t : TGs) : TG := fun v σ H Q => match v with
 | .ref a => (match H a with
  | some (.tup xs) => xs.length = n /\ t xs σ H Q
  | _ => False)
 | _ => False
theorem g9y : PGs X [] m7v := by
 intro pins s σ H vs us Q I r h
 refine l1l pins s σ H vs us Q I r ?_
 unfold m7v at h
 split at h
 ·exact ⟨rfl, h⟩
 ·exact h.elim
theorem c0o {e : Expr} {es : List Expr} {t : TG} {u : TGs} (h1 : PG X e t) (h2 : PGs X es u)
  (hs : (assignEach (e :: es) X.env).map (·.2) = assign e X.env :: (assignEach es X.env).map (·.2) := by rfl) : PGs X (e :: es) (m0l t u) := by
 intro pins s σ H vs us Q I r h
 refine i1w h1 h2 hs pins s σ H vs us Q I r ?_
 unfold m0l at h
 split at h
 ·exact ⟨_, _, rfl, h⟩
 ·exact h.elim
theorem i2g {es : List Expr} {k : Nat} {t : TGs} {n : Nat} (hc : X.calm = true) (h : PGs X es t)
  (hn : (assignEach es X.env).length = n := by rfl) (hst : (assignEach es X.env).findIdx? (·.1) = none := by rfl) : PG X (.Tuple es k pos) (m7w n t) := by
 intro pins s σ H v u Q I r hw
 refine l9q hc h hn hst pins s σ H v u Q I r ?_
 unfold m7w at hw
 cases v with
 | ref a =>
  dsimp only at hw
  split at hw
  ·rename_i xs e
   exact ⟨a, xs, rfl, SqT.of e, hw.1, hw.2⟩
  ·exact hw.elim
 | _ => exact False.elim hw
end
end L2
namespace L2
open PySem PySem.Spec PyProof.Rows
section
variable {X : Cx} {scope : Scope} {x : Str} {pins : List (Addr × Obj)} {σ : St} {elt iter cnd : Expr} {px pos : Pos} {wi : TI} {te : TE} {tc : TT}
end
section
variable {X : Cx} {k : Nat} {f C : Addr} {fd : FuncData} {ps : List Str} {sp : Sp} {dvs : List V} {ds : List Value} {E : XK} {x m : Str} {p pos apos : Pos} {e o : Expr} {es : List Expr} {ta : TE} {t : TA}
end
end L2
namespace L2
open PySem PySem.Spec PyProof.Rows
section
variable {X : Cx}
end
section
variable {prog : Program} {w : World} {A : Around} {E : Value -> Shared -> Prop} {s : Shared}
end
noncomputable def rSetM : V -> V -> V -> Hp -> (Hp -> Prop) -> Prop := fun o i v H Q => match o, i with
 | .ref p, .int k => (match H p with
  | some (.lst xs) => (0 <= k /\ k < xs.length) /\ ∀ H1, a6j p H H1 -> H1 p = some (.lst (xs.set k.toNat v)) -> Q H1
  | _ => False)
 | _, _ => False
theorem i2h {K : PySem.W.Frag} {a D : Addr} {xs : List V} {te : TE} {σ : St} {H0 H : Hp} {Q : VK} (zs : List V) (hz : zs.length = xs.length) (n0 : H0 D = none) (S : Same H0 H) (hD : H D = some (.lst [])) (hS : SqL K H0 a xs) (hsz : xs.length <= sizeLine)
  (hs : ∀ (i : Nat) x z H' (Q' : VK), xs[i]? = some x -> zs[i]? = some z -> Same H0 H' -> Q' z H' -> te (some x :: σ) H' Q') (q : ∀ H', Same H0 H' -> H' D = some (.lst zs) -> Q (.ref D) H') : h6g (Itl K a) te D σ H Q ⟨⟩ := by
 refine b7k (fun i ys H' => Same H0 H' /\ H' D = some (.lst ys) /\ ys = zs.take i) ⟨S, hD, by simp⟩ hsz (fun i ys H' hi p => ?_) (fun i x ys H' hx p => ?_) (fun ys H' p => ?_)
 ·refine ⟨p.2.1, p.1.seq hS, ?_⟩
  rw [p.2.2, List.length_take]
  omega
 ·have hi : i < zs.length := by rw [hz]; exact (List.getElem?_eq_some_iff.mp hx).1
  have hzi : zs[i]? = some zs[i] := List.getElem?_eq_getElem hi
  refine hs i x _ H' _ hx hzi p.1 ⟨p.2.1, fun H3 s3 h3 => ⟨p.1.step n0 s3, h3, ?_⟩⟩
  rw [p.2.2, List.take_add_one, hzi]
  rfl
 ·refine q H' p.1 ?_
  rw [p.2.1, p.2.2, <- hz, List.take_length]
end L2
namespace L2
open PySem PySem.Spec PyProof.Rows
section
variable {X : Cx} {pins : List (Addr × Obj)} {σ : St} {H : Hp} {s : Shared}
theorem Inv.i2i {t' : Nat} {h' : Heap} {fp : List Addr} (I : Inv X pins σ H s) (k : ∀ b o, b ∉ fp -> s.heap.get? b = some o -> h'.get? b = some o) (hf : ∀ b ∈ fp, i1x X pins H b) : Inv X pins σ H { s with heap := h', toks := t' } := by
 have nit : ∀ b u, H b = some u -> b ∉ fp := fun b u e z => by rw [(hf b z).1] at e; cases e
 refine I.call' (s' := { s with heap := h', toks := t' }) (ch := fp) rfl ⟨fun b o e n hb hx => k b o hx e, fun b o e n hb hx => ⟨o.slots, k b o hx e⟩, fun _ _ _ n _ => n, fun b o e hx => ⟨o, k b o hx e⟩, fun _ _ q => q, fun _ _ _ q => q, fun _ ps q => ⟨#[], by rw [q]; simp⟩⟩ ?_ I.bare fun b hb => ⟨(hf b hb).2.2.2.1, (hf b hb).2.1, (hf b hb).2.2.2.2.1, (hf b hb).2.2.2.2.2⟩
 intro b u e
 refine (I.hok b u e).stay (fun c v hc q => k c v ?_ q) (fun _ q => q) fun _ _ q => q
 rcases hc with z | z
 ·rw [z]; exact nit b u e
 ·exact nit c _ z
end
def ItB (b : Bool) (h : Heap) (it l : Addr) (i : Nat) : Prop := ∃ o, h.get? it = some o ∧ o.cls = .type (cond b "list_iterator" "tuple_iterator") ∧ o.data = .fields #[.ref l, .int i 0]
def SqB (b : Bool) (h : Heap) (l : Addr) (items : Array Value) : Prop := ∃ o, h.get? l = some o ∧ o.cls = .type (cond b "list" "tuple") ∧ ∃ n, o.data = .seq items n
theorem ItB.at {b : Bool} {h h' : Heap} {it l : Addr} {i : Nat} (x : ItB b h it l i) (k : ∀ o, h.get? it = some o -> h'.get? it = some o) : ItB b h' it l i := let ⟨o, e, r⟩ := x; ⟨o, k o e, r⟩
theorem SqB.at {b : Bool} {h h' : Heap} {l : Addr} {items : Array Value} (x : SqB b h l items) (k : ∀ o, h.get? l = some o -> h'.get? l = some o) : SqB b h' l items := let ⟨o, e, r⟩ := x; ⟨o, k o e, r⟩
section
variable {prog : Program} {w : World} {A : Around} {E : Value -> Shared -> Prop} {s : Shared}
theorem j7g {it t : Addr} {i : Nat} {items : Array Value} {x : Value} {Q : Value -> Shared -> Prop} (hit : s.heap.IsTupleIter it t i) (ht : s.heap.IsTuple t items) (hx : items[i]? = some x)
  (hQ : ∀ h', h'.IsTupleIter it t (i + 1) -> Heap.SameBut it s.heap h' -> Q x { s with heap := h' }) : wpAny (model prog w) A (Builtin.SmallTypes.nextOf (.ref it)) Q E s := by
 obtain ⟨o, ho, hc, hd⟩ := id hit
 obtain ⟨ol, hol, _, nl, hdl⟩ := ht
 unfold Builtin.SmallTypes.nextOf
 refine wpAny_bind (wpAny_callSpecial?_slot (name := Str.ofString "__next__") hit.typeIs F.slot_tuple_iterator_next
  (wpAny_call_entry F.slot_tuple_iterator_next hit.typeIs F.entry_tuple_iterator_next ?_ (F.args_tuple_iterator_next_1 _)))
 show wpAny _ _ (field (.ref it) 0 >>= _) _ _ s
 refine wpAny_bind (wpAny_field ho hd (x := .ref t) rfl ?_)
 show wpAny _ _ (if (Value.ref t == Value.none) = true then _ else _) _ _ s
 rw [if_neg (show ¬ ((Value.ref t == Value.none) = true) from Bool.false_ne_true)]
 show wpAny _ _ (field (.ref it) 1 >>= _) _ _ s
 refine wpAny_bind (wpAny_field ho hd (x := .int i 0) rfl ?_)
 show wpAny _ _ (seqItems? (.ref t) >>= _) _ _ s
 refine wpAny_bind (wpAny_seqItems hol hdl ?_)
 simp only [Int.toNat_natCast, hx]
 refine wpAny_bind (wpAny_setField ho hd (by simp) (wpAny_pure ⟨x, rfl, wpAny_pure (hQ _ ?_ (Heap.SameBut.update ..))⟩))
 exact ⟨_, Heap.get?_update_self _ ho (Obj.isFreed_of_fields (Obj.data_mapFields hd _)), (Obj.cls_mapFields ..).trans hc, by
  rw [Obj.data_mapFields hd]; simp [rawInt]⟩
theorem k5y {it t : Addr} {i : Nat} {items : Array Value} {Q : Value -> Shared -> Prop} (hh : A.handled = none) (hit : s.heap.IsTupleIter it t i) (ht : s.heap.IsTuple t items) (hx : items[i]? = none)
  (hE : ∀ h' e, Heap.ExtBut it s.heap h' → (∃ o, h'.get? e = some o ∧ o.cls = .type "StopIteration") → E (.ref e) { s with heap := h' }) : wpAny (model prog w) A (Builtin.SmallTypes.nextOf (.ref it)) Q E s := by
 obtain ⟨o, ho, hc, hd⟩ := id hit
 obtain ⟨ol, hol, _, nl, hdl⟩ := ht
 unfold Builtin.SmallTypes.nextOf
 refine wpAny_bind (wpAny_callSpecial?_slot (name := Str.ofString "__next__") hit.typeIs F.slot_tuple_iterator_next
  (wpAny_call_entry F.slot_tuple_iterator_next hit.typeIs F.entry_tuple_iterator_next ?_ (F.args_tuple_iterator_next_1 _)))
 show wpAny _ _ (field (.ref it) 0 >>= _) _ _ s
 refine wpAny_bind (wpAny_field ho hd (x := .ref t) rfl ?_)
 show wpAny _ _ (if (Value.ref t == Value.none) = true then _ else _) _ _ s
 rw [if_neg (show ¬ ((Value.ref t == Value.none) = true) from Bool.false_ne_true)]
 show wpAny _ _ (field (.ref it) 1 >>= _) _ _ s
 refine wpAny_bind (wpAny_field ho hd (x := .int i 0) rfl ?_)
 show wpAny _ _ (seqItems? (.ref t) >>= _) _ _ s
 refine wpAny_bind (wpAny_seqItems hol hdl ?_)
 simp only [Int.toNat_natCast, hx]
 refine wpAny_bind (wpAny_rule (wpAny_bind (wpAny_setField ho hd (by simp) ?_)))
 show wpAny _ _ (newExc (.type "StopIteration") [] >>= _) _ _ _
 refine wpAny_bind ?_
 simp only [newExc, newTuple]
 refine wpAny_bind (wpAny_newObj_type ?_ (by size_fits))
 refine wpAny_bind (m := firstArgMember _ _) (wpAny_of_eq (a := Value.none) (by first | rfl | (simp only [firstArgMember]; rfl)) ?_)
 refine wpAny_newObj_type ?_ (by size_fits)
 simp only [raiseNew]
 refine wpAny_bind (wpAny_handled ?_)
 first | rw [show A.in1.handled = none from hh] | rw [hh]
 refine wpAny_bind (wpAny_pure (wpAny_throw ?_))
 exact hE _ _ (((Heap.SameBut.update ..).extBut.push _).push _) ⟨_, Heap.get?_push_size _ rfl, rfl⟩
theorem j7h {b : Bool} {it l : Addr} {i : Nat} {items : Array Value} {x : Value} {Q : Value -> Shared -> Prop} (hit : ItB b s.heap it l i) (hl : SqB b s.heap l items) (hx : items[i]? = some x)
  (hQ : ∀ h', ItB b h' it l (i + 1) -> Heap.SameBut it s.heap h' -> Q x { s with heap := h' }) : wpAny (model prog w) A (Builtin.SmallTypes.nextOf (.ref it)) Q E s := by
 cases b with
 | true => exact wpAny_nextOf_list_item hit hl hx hQ
 | false => exact j7g hit hl hx hQ
theorem m0m {b : Bool} {it l : Addr} {i : Nat} {items : Array Value} {Q : Value -> Shared -> Prop} (hh : A.handled = none) (hit : ItB b s.heap it l i) (hl : SqB b s.heap l items) (hx : items[i]? = none)
  (hE : ∀ h' e, Heap.ExtBut it s.heap h' → (∃ o, h'.get? e = some o ∧ o.cls = .type "StopIteration") → E (.ref e) { s with heap := h' }) : wpAny (model prog w) A (Builtin.SmallTypes.nextOf (.ref it)) Q E s := by
 cases b with
 | true => exact wpAny_nextOf_list_end hh hit hl hx hE
 | false => exact k5y hh hit hl hx hE
noncomputable def itO (b : Bool) (l : Addr) : Obj := { cls := .type (cond b "list_iterator" "tuple_iterator"), data := .fields #[.ref l, .int 0 0] }
theorem m7x {b : Bool} {l : Addr} {items : Array Value} {Q : Value -> Shared -> Prop} (hl : SqB b s.heap l items) (hQ : Q (.ref s.heap.objs.size) { s with heap := s.heap.push (itO b l) }) : wpAny (model prog w) A (pyIter (.ref l)) Q E s := by
 cases b with
 | true => exact wpAny_pyIter_list hl hQ
 | false => exact wpAny_pyIter_tuple hl hQ
theorem l2r {b1 b2 : Bool} {z TI TO i1 i2 l1 l2 : Addr} {k : Nat} {xs ys : Array Value} {x y a b : Value} {Q : Option Value -> Shared -> Prop} (D : ZipApart z TI TO i1 i2 l1 l2)
  (hz : IsZip s.heap z TI TO .none) (hTI : IsPair s.heap TI (.ref i1) (.ref i2)) (hTO : IsPair s.heap TO a b)
  (h1 : ItB b1 s.heap i1 l1 k) (h2 : ItB b2 s.heap i2 l2 k) (hl1 : SqB b1 s.heap l1 xs) (hl2 : SqB b2 s.heap l2 ys) (hx : xs[k]? = some x) (hy : ys[k]? = some y)
  (hQ : ∀ h', IsZip h' z TI TO (rawInt s.heap.objs.size) -> IsPair h' TO x y -> ItB b1 h' i1 l1 (k + 1) -> ItB b2 h' i2 l2 (k + 1) -> IsPair h' s.heap.objs.size x y ->
   (∀ c o, c ≠ z -> c ≠ TO -> c ≠ i1 -> c ≠ i2 -> s.heap.get? c = some o -> h'.get? c = some o) -> Q (some (.ref s.heap.objs.size)) { s with heap := h' }) :
  wpAny (model prog w) A (pyNext (.ref z)) Q E s := by
 have hT : s.TypeIs (.ref z) "zip" := ⟨_, hz, rfl⟩
 unfold pyNext
 refine wpAny_bind (wpAny_attempt (wpAny_callSpecial?_slot (name := Str.ofString "__next__") hT F.slot_zip_next (wpAny_call_entry F.slot_zip_next hT F.entry_zip_next ?_ (F.args_zip_next_1 _))))
 show wpAny _ _ (field (.ref z) 2 >>= _) _ _ _
 refine wpAny_bind (wpAny_field hz rfl (x := .bool false) rfl ?_)
 show wpAny _ _ (field (.ref z) 3 >>= _) _ _ _
 refine wpAny_bind (wpAny_field hz rfl (x := .ref TI) rfl ?_)
 refine wpAny_bind (wpAny_seqItems hTI rfl ?_)
 show wpAny _ _ (Builtin.SmallTypes.ownedTupleIsFree (.ref z) >>= _) _ _ _
 refine wpAny_bind ?_
 unfold Builtin.SmallTypes.ownedTupleIsFree
 refine wpAny_bind (wpAny_field hz rfl (x := .none) rfl (wpAny_pure ?_))
 simp only [if_true]
 refine wpAny_bind (wpAny_rule ?_)
 refine wpAny_bind (wpAny_field hz rfl (x := .ref TO) rfl ?_)
 refine wpAny_bind (wpAny_setField_rec hz (by simp) fun g1 hz1 s1 => ?_)
 replace hz1 : IsZip g1 z TI TO .ellipsis := hz1
 refine wpAny_bind ?_
 simp only [List.zipIdx_cons, List.zipIdx_nil, List.forIn_cons, List.forIn_nil]
 refine wpAny_bind (wpAny_bind (wpAny_onRaise ?_))
 show wpAny _ _ (Builtin.SmallTypes.nextOf (.ref i1) >>= _) _ _ _
 refine wpAny_bind (j7h (h1.at fun o e => s1.extBut _ _ D.i1z e) (hl1.at fun o e => s1.extBut _ _ D.l1z e) hx fun g2 h12 s2 => wpAny_pure ?_)
 have m7y : IsPair g2 TO a b := s2.extBut _ _ D.TOi1 (s1.extBut _ _ D.TOz hTO)
 refine wpAny_bind (wpAny_seqItems m7y rfl ?_)
 refine wpAny_bind (wpAny_updateSeq_pair m7y fun g3 hTO3 s3 => ?_)
 replace hTO3 : IsPair g3 TO x b := hTO3
 refine wpAny_bind (wpAny_letGo (wpAny_pure ?_))
 refine wpAny_bind (wpAny_bind (wpAny_onRaise ?_))
 show wpAny _ _ (Builtin.SmallTypes.nextOf (.ref i2) >>= _) _ _ _
 refine wpAny_bind (j7h (h2.at fun o e => s3.extBut _ _ D.TOi2.symm (s2.extBut _ _ D.i12.symm (s1.extBut _ _ D.i2z e))) (hl2.at fun o e => s3.extBut _ _ D.l2TO (s2.extBut _ _ D.l2i1 (s1.extBut _ _ D.l2z e))) hy fun g4 h24 s4 => wpAny_pure ?_)
 have n4o : IsPair g4 TO x b := s4.extBut _ _ D.TOi2 hTO3
 refine wpAny_bind (wpAny_seqItems n4o rfl ?_)
 refine wpAny_bind (wpAny_updateSeq_pair n4o fun g5 hTO5 s5 => ?_)
 replace hTO5 : IsPair g5 TO x y := hTO5
 refine wpAny_bind (wpAny_letGo (wpAny_pure (wpAny_pure ?_)))
 refine wpAny_bind (wpAny_seqItems hTO5 rfl ?_)
 refine wpAny_bind (wpAny_newTuple ?_)
 have hsz : g5.objs.size = s.heap.objs.size := by rw [s5.1, s4.1, s3.1, s2.1, s1.1]
 have hz5 : IsZip g5 z TI TO .ellipsis := s5.extBut _ _ D.TOz.symm (s4.extBut _ _ D.i2z.symm (s3.extBut _ _ D.TOz.symm (s2.extBut _ _ D.i1z.symm hz1)))
 have h15 : ItB b1 g5 i1 l1 (k + 1) := h12.at fun o e => s5.extBut _ _ D.TOi1.symm (s4.extBut _ _ D.i12 (s3.extBut _ _ D.TOi1.symm e))
 have h25 : ItB b2 g5 i2 l2 (k + 1) := h24.at fun o e => s5.extBut _ _ D.TOi2.symm e
 have hzlt : z < g5.objs.size := Heap.lt_size hz5
 show wpAny _ _ (Builtin.SmallTypes.ownedTupleHandOut (.ref z) (.ref g5.objs.size) >>= _) _ _ _
 refine wpAny_bind ?_
 unfold Builtin.SmallTypes.ownedTupleHandOut
 have hz6 : IsZip (g5.push { cls := .type "tuple", data := .seq #[x, y] }) z TI TO .ellipsis := Heap.get?_push_of_some _ hz5
 refine wpAny_bind (wpAny_setField_rec hz6 (by simp) fun g7 hz7 s7 => ?_)
 replace hz7 : IsZip g7 z TI TO (rawInt g5.objs.size) := hz7
 refine wpAny_setField_rec hz7 (by simp) fun g8 hz8 s8 => ?_
 replace hz8 : IsZip g8 z TI TO (rawInt g5.objs.size) := hz8
 have up : ∀ c o, c ≠ z -> g5.get? c = some o -> g8.get? c = some o := fun c o c1 e => s8.extBut _ _ c1 (s7.extBut _ _ c1 (Heap.get?_push_of_some _ e))
 have hT8 : IsPair g8 g5.objs.size x y := s8.extBut _ _ (Nat.ne_of_gt hzlt) (s7.extBut _ _ (Nat.ne_of_gt hzlt) (Heap.get?_push_size _ rfl))
 rw [hsz] at hz8 hT8
 refine wpAny_pure ⟨_, rfl, wpAny_pure ?_⟩
 show Q (some (.ref g5.objs.size)) _
 rw [hsz]
 exact hQ g8 hz8 (up _ _ D.TOz hTO5) (h15.at fun o e => up _ o D.i1z e) (h25.at fun o e => up _ o D.i2z e) hT8 fun c o c1 c2 c3 c4 e =>
  up c o c1 (s5.extBut _ _ c2 (s4.extBut _ _ c4 (s3.extBut _ _ c2 (s2.extBut _ _ c3 (s1.extBut _ _ c1 e)))))
theorem l7q {b1 b2 : Bool} {z TI TO i1 i2 l1 l2 : Addr} {k : Nat} {xs ys : Array Value} {a b : Value} {Q : Option Value -> Shared -> Prop} (hh : A.handled = none) (D : ZipApart z TI TO i1 i2 l1 l2)
  (hz : IsZip s.heap z TI TO .none) (hTI : IsPair s.heap TI (.ref i1) (.ref i2)) (hTO : IsPair s.heap TO a b)
  (h1 : ItB b1 s.heap i1 l1 k) (h2 : ItB b2 s.heap i2 l2 k) (hl1 : SqB b1 s.heap l1 xs) (hl2 : SqB b2 s.heap l2 ys) (hend : xs[k]? = none \/ ys[k]? = none)
  (hQ : ∀ h', (∀ c o, c ≠ z -> c ≠ TO -> c ≠ i1 -> c ≠ i2 -> s.heap.get? c = some o -> h'.get? c = some o) -> Q none { s with heap := h' }) : wpAny (model prog w) A (pyNext (.ref z)) Q E s := by
 have hT : s.TypeIs (.ref z) "zip" := ⟨_, hz, rfl⟩
 unfold pyNext
 have fin : ∀ (h' : Heap) (e : Addr), (∀ c o, c ≠ z → c ≠ TO → c ≠ i1 → c ≠ i2 → s.heap.get? c = some o → h'.get? c = some o) → (∃ o, h'.get? e = some o ∧ o.cls = .type "StopIteration") →
   wpAny (model prog w) A (isInstance (.ref e) (.type "StopIteration") >>= fun b => if b = true then pure none else throw (.ref e)) Q E { s with heap := h' } := fun h' e hk he => by
  obtain ⟨o, ho, hc⟩ := he
  refine wpAny_bind (wpAny_isInstance (T := "StopIteration") (b := true) ⟨o, ho, hc⟩ isSubtype_stop ?_)
  exact wpAny_pure (hQ _ hk)
 refine wpAny_bind (wpAny_attempt (wpAny_callSpecial?_slot (name := Str.ofString "__next__") hT F.slot_zip_next (wpAny_call_entry F.slot_zip_next hT F.entry_zip_next ?_ (F.args_zip_next_1 _))))
 show wpAny _ _ (field (.ref z) 2 >>= _) _ _ _
 refine wpAny_bind (wpAny_field hz rfl (x := .bool false) rfl ?_)
 show wpAny _ _ (field (.ref z) 3 >>= _) _ _ _
 refine wpAny_bind (wpAny_field hz rfl (x := .ref TI) rfl ?_)
 refine wpAny_bind (wpAny_seqItems hTI rfl ?_)
 show wpAny _ _ (Builtin.SmallTypes.ownedTupleIsFree (.ref z) >>= _) _ _ _
 refine wpAny_bind ?_
 unfold Builtin.SmallTypes.ownedTupleIsFree
 refine wpAny_bind (wpAny_field hz rfl (x := .none) rfl (wpAny_pure ?_))
 simp only [if_true]
 refine wpAny_bind (wpAny_rule ?_)
 refine wpAny_bind (wpAny_field hz rfl (x := .ref TO) rfl ?_)
 refine wpAny_bind (wpAny_setField_rec hz (by simp) fun g1 hz1 s1 => ?_)
 replace hz1 : IsZip g1 z TI TO .ellipsis := hz1
 refine wpAny_bind ?_
 simp only [List.zipIdx_cons, List.zipIdx_nil, List.forIn_cons, List.forIn_nil]
 refine wpAny_bind (wpAny_bind (wpAny_onRaise ?_))
 show wpAny _ _ (Builtin.SmallTypes.nextOf (.ref i1) >>= _) _ _ _
 cases hx : xs[k]? with
 | none =>
  refine wpAny_bind (m0m hh (h1.at fun o e => s1.extBut _ _ D.i1z e) (hl1.at fun o e => s1.extBut _ _ D.l1z e) hx fun g2 e s2 he => ?_)
  obtain ⟨oe, hoe, hce⟩ := he
  have hz2 : IsZip g2 z TI TO .ellipsis := s2 _ _ D.i1z.symm hz1
  have hez : e ≠ z := fun x => by subst x; rw [hz2] at hoe; cases hoe; simp at hce
  exact wpAny_setField_rec hz2 (by simp) fun g3 _ s3 => fin g3 e (fun c o c1 _ c3 _ x => s3.extBut _ _ c1 (s2 _ _ c3 (s1.extBut _ _ c1 x))) ⟨oe, s3.extBut _ _ hez hoe, hce⟩
 | some x =>
  have hy : ys[k]? = none := by
   rcases hend with h | h
   ·rw [hx] at h; cases h
   ·exact h
  refine wpAny_bind (j7h (h1.at fun o e => s1.extBut _ _ D.i1z e) (hl1.at fun o e => s1.extBut _ _ D.l1z e) hx fun g2 h12 s2 => wpAny_pure ?_)
  have m7y : IsPair g2 TO a b := s2.extBut _ _ D.TOi1 (s1.extBut _ _ D.TOz hTO)
  refine wpAny_bind (wpAny_seqItems m7y rfl ?_)
  refine wpAny_bind (wpAny_updateSeq_pair m7y fun g3 hTO3 s3 => ?_)
  refine wpAny_bind (wpAny_letGo (wpAny_pure ?_))
  refine wpAny_bind (wpAny_bind (wpAny_onRaise ?_))
  show wpAny _ _ (Builtin.SmallTypes.nextOf (.ref i2) >>= _) _ _ _
  refine wpAny_bind (m0m hh (h2.at fun o e => s3.extBut _ _ D.TOi2.symm (s2.extBut _ _ D.i12.symm (s1.extBut _ _ D.i2z e))) (hl2.at fun o e => s3.extBut _ _ D.l2TO (s2.extBut _ _ D.l2i1 (s1.extBut _ _ D.l2z e))) hy fun g4 e s4 he => ?_)
  obtain ⟨oe, hoe, hce⟩ := he
  have hz4 : IsZip g4 z TI TO .ellipsis := s4 _ _ D.i2z.symm (s3.extBut _ _ D.TOz.symm (s2.extBut _ _ D.i1z.symm hz1))
  have hez : e ≠ z := fun x => by subst x; rw [hz4] at hoe; cases hoe; simp at hce
  exact wpAny_setField_rec hz4 (by simp) fun g5 _ s5 => fin g5 e (fun c o c1 c2 c3 c4 x => s5.extBut _ _ c1 (s4 _ _ c4 (s3.extBut _ _ c2 (s2.extBut _ _ c3 (s1.extBut _ _ c1 x))))) ⟨oe, s5.extBut _ _ hez hoe, hce⟩
noncomputable abbrev zB1 (b1 : Bool) (h : Heap) (l1 : Addr) : Heap := h.push (itO b1 l1)
noncomputable abbrev zB2 (b1 b2 : Bool) (h : Heap) (l1 l2 : Addr) : Heap := (zB1 b1 h l1).push (itO b2 l2)
noncomputable abbrev zB3 (b1 b2 : Bool) (h : Heap) (l1 l2 : Addr) : Heap := (zB2 b1 b2 h l1 l2).push { cls := .type "tuple", data := .seq #[.ref h.objs.size, .ref (zB1 b1 h l1).objs.size] }
noncomputable abbrev zB4 (b1 b2 : Bool) (h : Heap) (l1 l2 : Addr) : Heap := (zB3 b1 b2 h l1 l2).push { cls := .type "tuple", data := .seq #[.none, .none] }
noncomputable abbrev zB5 (b1 b2 : Bool) (h : Heap) (l1 l2 : Addr) : Heap := (zB4 b1 b2 h l1 l2).push { cls := .type "zip", data := .fields #[.none, .bool false, .bool false, .ref (zB2 b1 b2 h l1 l2).objs.size, .ref (zB3 b1 b2 h l1 l2).objs.size] }
theorem k5z (b1 b2 : Bool) (l1 l2 : Addr) (xs ys : Array Value) :
  Meets (Builtin.«zip.__new__» ⟨[.type "zip", .ref l1, .ref l2], []⟩) (fun _ R s => SqB b1 s.heap l1 xs ∧ SqB b2 s.heap l2 ys ∧
   R (.ok (.ret (.ref (zB4 b1 b2 s.heap l1 l2).objs.size))) { s with heap := zB5 b1 b2 s.heap l1 l2 }) :=
 .of_wp fun prog w A R s h => by
  obtain ⟨hp, g, d, tk, os⟩ := s; obtain ⟨hl1, hl2, h⟩ := h
  have hsub := sub_zip
  have hL1 : SqB b1 (Shared.heap ⟨hp, g, d, tk, os⟩) l1 xs := hl1
  have hL2 : SqB b2 (Shared.heap ⟨hp.push (itO b1 l1), g, d, tk, os⟩) l2 ys := hl2.at fun o e => Heap.get?_push_of_some _ e
  wp_walk using m7x hL1, m7x hL2
  exact ⟨_, rfl, h⟩
theorem l7r {b1 b2 : Bool} {l1 l2 : Addr} {xs ys : Array Value} {Q : Value -> Shared -> Prop} (hl1 : SqB b1 s.heap l1 xs) (hl2 : SqB b2 s.heap l2 ys)
  (h : ∀ h', IsZip h' (s.heap.objs.size + 4) (s.heap.objs.size + 2) (s.heap.objs.size + 3) .none -> IsPair h' (s.heap.objs.size + 2) (.ref s.heap.objs.size) (.ref (s.heap.objs.size + 1)) ->
   IsPair h' (s.heap.objs.size + 3) .none .none -> ItB b1 h' s.heap.objs.size l1 0 -> ItB b2 h' (s.heap.objs.size + 1) l2 0 ->
   (∀ c o, s.heap.get? c = some o -> h'.get? c = some o) -> Q (.ref (s.heap.objs.size + 4)) { s with heap := h' }) :
  wpAny (model prog w) A (call (.type "zip") [.ref l1, .ref l2]) Q E s := by
 refine callType_new F.called_zip (by decide) (F.typeCall_zip_2 _ _) (F.newCall_zip_2 _ _) (fun obj => F.args_object_init_3 obj _ _) F.entry_zip_new
  (k5z b1 b2 l1 l2 xs ys) ⟨hl1, hl2, ?_⟩
 have z1 : (zB1 b1 s.heap l1).objs.size = s.heap.objs.size + 1 := Heap.size_push ..
 have z2 : (zB2 b1 b2 s.heap l1 l2).objs.size = s.heap.objs.size + 2 := by rw [Heap.size_push, z1]
 have z3 : (zB3 b1 b2 s.heap l1 l2).objs.size = s.heap.objs.size + 3 := by rw [Heap.size_push, z2]
 have z4 : (zB4 b1 b2 s.heap l1 l2).objs.size = s.heap.objs.size + 4 := by rw [Heap.size_push, z3]
 have g5 : (zB5 b1 b2 s.heap l1 l2).get? (zB4 b1 b2 s.heap l1 l2).objs.size = some _ := Heap.get?_push_size _ rfl
 have g4 : (zB5 b1 b2 s.heap l1 l2).get? (zB3 b1 b2 s.heap l1 l2).objs.size = some _ := Heap.get?_push_of_some _ (Heap.get?_push_size _ rfl)
 have g3 : (zB5 b1 b2 s.heap l1 l2).get? (zB2 b1 b2 s.heap l1 l2).objs.size = some _ := Heap.get?_push_of_some _ (Heap.get?_push_of_some _ (Heap.get?_push_size _ rfl))
 have g2 : (zB5 b1 b2 s.heap l1 l2).get? (zB1 b1 s.heap l1).objs.size = some (itO b2 l2) := Heap.get?_push_of_some _ (Heap.get?_push_of_some _ (Heap.get?_push_of_some _ (Heap.get?_push_size _ rfl)))
 have g1 : (zB5 b1 b2 s.heap l1 l2).get? s.heap.objs.size = some (itO b1 l1) := Heap.get?_push_of_some _ (Heap.get?_push_of_some _ (Heap.get?_push_of_some _ (Heap.get?_push_of_some _ (Heap.get?_push_size _ rfl))))
 show _ /\ _
 rw [z2, z3, z4] at g5
 rw [z1, z2] at g3
 rw [z3] at g4
 rw [z1] at g2
 rw [z4]
 exact ⟨⟨_, g5, rfl⟩, h _ g5 g3 g4 ⟨_, g1, rfl, rfl⟩ ⟨_, g2, rfl, rfl⟩ fun c o x =>
  Heap.get?_push_of_some _ (Heap.get?_push_of_some _ (Heap.get?_push_of_some _ (Heap.get?_push_of_some _ (Heap.get?_push_of_some _ x))))⟩
end
def SqK (b : Bool) (K : PySem.W.Frag) (H : Hp) (l : Addr) (xs : List V) : Prop := match b with
 | true => SqL K H l xs
 | false => SqT K H l xs
theorem Inv.m5b {X : Cx} {pins : List (Addr × Obj)} {σ : St} {H : Hp} {s : Shared} {b : Bool} {l : Addr} {xs : List V} (I : Inv X pins σ H s) (h : SqK b X.K H l xs) : ∃ its : List Value, Vals xs its /\ SqB b s.heap l its.toArray /\ xs.length <= sizeLine := by
 cases b with
 | true =>
  obtain ⟨its, r, p, z⟩ := I.list h
  exact ⟨its, r, p.isList, z⟩
 | false =>
  obtain ⟨its, r, p, z⟩ := I.tuple h
  exact ⟨its, r, p, z⟩
theorem Inv.k4g {X : Cx} {pins : List (Addr × Obj)} {σ : St} {H : Hp} {s : Shared} {b : Bool} {l : Addr} {xs ys : List V} (I : Inv X pins σ H s) (h : SqK b X.K H l xs) (h' : SqK b X.K H l ys) : xs = ys := by
 cases b with
 | true => exact I.i1v h h'
 | false => exact I.i9c h h'
noncomputable def Itz (K : PySem.W.Frag) (b1 b2 : Bool) (l1 l2 : Addr) : It :=
 ⟨fun i H => ∃ xs ys x y, SqK b1 K H l1 xs /\ SqK b2 K H l2 ys /\ xs[i]? = some x /\ ys[i]? = some y,
  fun i H v H' => ∃ p x y, v = .ref p ∧ H p = none ∧ H' = upd H p (.tup [x, y]) ∧ (∀ xs, SqK b1 K H l1 xs → xs[i]? = some x) ∧ ∀ ys, SqK b2 K H l2 ys → ys[i]? = some y,
  fun i H => ∃ xs ys, SqK b1 K H l1 xs ∧ SqK b2 K H l2 ys ∧ (xs.length ≤ i ∨ ys.length ≤ i)⟩
theorem l7s {P : Program} {w : World} {K : PySem.W.Frag} {elts : List Expr} {kk : Nat} {tpos : Pos} {b1 b2 : Bool} {z TI TO i1 i2 l1 l2 : Addr} (D : ZipApart z TI TO i1 i2 l1 l2) :
  Turn P w K (.Tuple elts kk tpos) (Itz K b1 b2 l1 l2) [z, TI, TO, i1, i2] z (fun i h => IsZip h z TI TO .none /\ IsPair h TI (.ref i1) (.ref i2) /\ (∃ a b, IsPair h TO a b) /\ ItB b1 h i1 l1 i /\ ItB b2 h i2 l2 i) where
 mem := by simp
 obj := fun i h st b hb => by
  obtain ⟨hz, hTI, ⟨a, c, hTO⟩, ⟨o1, e1, _, d1⟩, ⟨o2, e2, _, d2⟩⟩ := st
  simp only [List.mem_cons, List.not_mem_nil, or_false] at hb
  rcases hb with rfl | rfl | rfl | rfl | rfl
  ·exact ⟨_, hz, fun v z => by cases z⟩
  ·exact ⟨_, hTI, fun v z => by cases z⟩
  ·exact ⟨_, hTO, fun v z => by cases z⟩
  ·exact ⟨_, e1, fun v z => by rw [d1] at z; cases z⟩
  ·exact ⟨_, e2, fun v z => by rw [d2] at z; cases z⟩
 keep := fun i h h' st k => by
  obtain ⟨hz, hTI, ⟨a, c, hTO⟩, h1, h2⟩ := st
  exact ⟨k z (by simp) _ hz, k TI (by simp) _ hTI, ⟨a, c, k TO (by simp) _ hTO⟩, h1.at fun o e => k i1 (by simp) o e, h2.at fun o e => k i2 (by simp) o e⟩
 item := by
  intro X hP hw hK hc i pins s σ H E I hf st hg
  subst hP hw hK
  obtain ⟨xs, ys, x, y, hq1, hq2, hx, hy⟩ := hg
  obtain ⟨us, r1, p1, _⟩ := I.m5b hq1
  obtain ⟨ws, r2, p2, _⟩ := I.m5b hq2
  obtain ⟨u, hu, ru⟩ := r1.get hx
  obtain ⟨v, hv, rv⟩ := r2.get hy
  obtain ⟨hz, hTI, ⟨a, b, hTO⟩, h1, h2⟩ := st
  refine l2r D hz hTI hTO h1 h2 p1 p2 (x := u) (y := v) (by simpa using hu) (by simpa using hv) fun h' z' TO' h1' h2' pT kk' => ?_
  refine ⟨.ref s.heap.objs.size, rfl, wpAny_letOwnedTupleGo_zip (s := { s with heap := h' }) z' fun h'' z'' sb => ?_⟩
  replace sb : Heap.SameBut z h' h'' := sb
  have k2 : ∀ c o, c ∉ [z, TI, TO, i1, i2] -> s.heap.get? c = some o -> h''.get? c = some o := fun c o hc e => by
   simp only [List.mem_cons, List.not_mem_nil, or_false, not_or] at hc
   exact sb.extBut _ _ hc.1 (kk' c o hc.1 hc.2.2.1 hc.2.2.2.1 hc.2.2.2.2 e)
  have I1 : Inv X pins σ H { s with heap := h'' } := I.i2i (t' := s.toks) k2 hf
  have zlt : z < s.heap.objs.size := Heap.lt_size hz
  have pT2 : IsPair h'' s.heap.objs.size u v := sb.extBut _ _ (Nat.ne_of_gt zlt) pT
  have fo := I.l6i (b := s.heap.objs.size) (Nat.le_refl _) (I.hok.fresh (Nat.le_refl _))
  have nT : H s.heap.objs.size = none := I.hok.fresh (Nat.le_refl _)
  have I2 : Inv X pins σ (upd H s.heap.objs.size (.tup [x, y])) { s with heap := h'' } := by
   refine I1.track ?_ fo.2.1 fo.2.2.2.2.1 fo.2.2.2.2.2 nT ⟨two_line, [u, v], .cons ru (.cons rv .nil), ⟨_, pT2, rfl, 0, rfl⟩⟩
   cases q : X.s₀.heap.get? s.heap.objs.size with
   | none => rfl
   | some o => exact absurd (Nat.lt_of_lt_of_le (Heap.lt_size q) I.sz) (Nat.lt_irrefl _)
  have ne : ∀ b ∈ [z, TI, TO, i1, i2], b ≠ s.heap.objs.size := fun b hb e => by
   have lt : b < s.heap.objs.size := by
    simp only [List.mem_cons, List.not_mem_nil, or_false] at hb
    rcases hb with rfl | rfl | rfl | rfl | rfl
    ·exact zlt
    ·exact Heap.lt_size hTI
    ·exact Heap.lt_size hTO
    ·obtain ⟨_, e, _⟩ := h1; exact Heap.lt_size e
    ·obtain ⟨_, e, _⟩ := h2; exact Heap.lt_size e
   exact Nat.ne_of_lt lt e
  refine ⟨.ref s.heap.objs.size, _, I2, rfl, ⟨_, x, y, rfl, nT, rfl, fun xs' h => by rw [I.k4g h hq1]; exact hx, fun ys' h => by rw [I.k4g h hq2]; exact hy⟩,
   ⟨z'', sb.extBut _ _ D.TIz (kk' _ _ D.TIz D.TITO D.TIi1 D.TIi2 hTI), ⟨_, _, sb.extBut _ _ D.TOz TO'⟩, h1'.at fun o e => sb.extBut _ _ D.i1z e, h2'.at fun o e => sb.extBut _ _ D.i2z e⟩, fun b hb => by rw [a4v (ne b hb)]; exact (hf b hb).1⟩
 done := by
  intro X hP hw hK hc i pins s σ H E I hf st hg
  subst hP hw hK
  obtain ⟨xs, ys, hq1, hq2, hle⟩ := hg
  obtain ⟨us, r1, p1, _⟩ := I.m5b hq1
  obtain ⟨ws, r2, p2, _⟩ := I.m5b hq2
  obtain ⟨hz, hTI, ⟨a, b, hTO⟩, h1, h2⟩ := st
  have l1' := r1.length
  have l2' := r2.length
  refine l7q (I.ok.hd hc) D hz hTI hTO h1 h2 p1 p2 (by rcases hle with h | h <;> simp <;> omega) fun h' kk' => ⟨rfl, I.i2i (t' := s.toks) (fun c o hc e => ?_) hf⟩
  simp only [List.mem_cons, List.not_mem_nil, or_false, not_or] at hc
  exact kk' c o hc.1 hc.2.2.1 hc.2.2.2.1 hc.2.2.2.2 e
 self := fun _ _ _ _ _ st h => wpAny_pyIter_zip st.1 h
def n2b (K : PySem.W.Frag) (ta : TA) : TI := fun σ H R => ta σ H fun vs H1 => match vs with
 | [.ref l1, .ref l2] => (match H1 l1, H1 l2 with
  | some (.lst _), some (.lst _) => R (Itz K true true l1 l2) H1
  | some (.lst _), some (.tup _) => R (Itz K true false l1 l2) H1
  | some (.tup _), some (.lst _) => R (Itz K false true l1 l2) H1
  | some (.tup _), some (.tup _) => R (Itz K false false l1 l2) H1
  | _, _ => False)
 | _ => False
theorem k4h {X : Cx} {elts : List Expr} {kk : Nat} {tpos : Pos} {a b : Expr} {ta : TA} {p pos : Pos} (hg : Gl X "zip") (hm : X.mg "zip" = none) (ha : PA X [a, b] ta) (hs : starEach [a, b] X.env = [(false, eval a X.env), (false, eval b X.env)] := by rfl) (hs2 : starEach [b] X.env = [(false, eval b X.env)] := by rfl) :
  PI X (.Tuple elts kk tpos) (.Call (.Name "zip" p) [a, b] [] pos) (n2b X.K ta) := by
 intro pins s σ H R I h
 refine Call_ (h0h I hg hm boot_zip (PyProof.Rows.callWith_type1 (thn (ha pos pins s σ H _ I h) fun us s1 ⟨vs, H1, I1, r1, q1⟩ => ?_) (by rw [hs, hs2]) (by rw [hs2]; rfl)))
 match vs, q1 with
 | [.ref l1, .ref l2], q1 =>
  obtain ⟨u, u', e0, e, e'⟩ := r1.two
  cases e
  cases e'
  subst e0
  have q : ∃ (b1 b2 : Bool) (xs ys : List V), SqK b1 X.K H1 l1 xs /\ SqK b2 X.K H1 l2 ys /\ R (Itz X.K b1 b2 l1 l2) H1 := by
   have q1' : (match H1 l1, H1 l2 with
    | some (.lst _), some (.lst _) => R (Itz X.K true true l1 l2) H1
    | some (.lst _), some (.tup _) => R (Itz X.K true false l1 l2) H1
    | some (.tup _), some (.lst _) => R (Itz X.K false true l1 l2) H1
    | some (.tup _), some (.tup _) => R (Itz X.K false false l1 l2) H1
    | _, _ => False) := q1
   split at q1'
   ·rename_i e1 e2
    exact ⟨true, true, _, _, SqL.of e1, SqL.of e2, q1'⟩
   ·rename_i e1 e2
    exact ⟨true, false, _, _, SqL.of e1, SqT.of e2, q1'⟩
   ·rename_i e1 e2
    exact ⟨false, true, _, _, SqT.of e1, SqL.of e2, q1'⟩
   ·rename_i e1 e2
    exact ⟨false, false, _, _, SqT.of e1, SqT.of e2, q1'⟩
   ·exact q1'.elim
  obtain ⟨b1, b2, xs, ys, hq1, hq2, q⟩ := q
  obtain ⟨us, rr1, p1, _⟩ := I1.m5b hq1
  obtain ⟨ws, rr2, p2, _⟩ := I1.m5b hq2
  have L1 : l1 < s1.heap.objs.size := by obtain ⟨_, e, _⟩ := p1; exact Heap.lt_size e
  have L2 : l2 < s1.heap.objs.size := by obtain ⟨_, e, _⟩ := p2; exact Heap.lt_size e
  refine l7r p1 p2 fun h' hz hTI hTO h1 h2 hk => ?_
  refine wpAny_pyIter_zip (s := { s1 with heap := h' }) hz ?_
  have D : ZipApart (s1.heap.objs.size + 4) (s1.heap.objs.size + 2) (s1.heap.objs.size + 3) s1.heap.objs.size (s1.heap.objs.size + 1) l1 l2 := by
   generalize s1.heap.objs.size = n at L1 L2
   replace L1 : Nat.lt l1 n := L1
   replace L2 : Nat.lt l2 n := L2
   constructor <;> (intro e; have : (n : Nat) = n := rfl; simp only [Nat.lt_eq] at L1 L2; first | (have e' : (_ : Nat) = _ := e; omega))
  refine ⟨_, [s1.heap.objs.size + 4, s1.heap.objs.size + 2, s1.heap.objs.size + 3, s1.heap.objs.size, s1.heap.objs.size + 1], _, _, H1, rfl, I1.kept (t' := s1.toks) hk, l7s D, ⟨hz, hTI, ⟨_, _, hTO⟩, h1, h2⟩, fun b hb => ?_, q⟩
  have hb' : s1.heap.objs.size <= b := by
   simp only [List.mem_cons, List.not_mem_nil, or_false] at hb
   rcases hb with rfl | rfl | rfl | rfl | rfl
   ·exact Nat.le_add_right _ _
   ·exact Nat.le_add_right _ _
   ·exact Nat.le_add_right _ _
   ·exact Nat.le_refl _
   ·exact Nat.le_add_right _ _
  exact I1.l6i hb' (I1.hok.fresh hb')
theorem i2j {K : PySem.W.Frag} {b1 b2 : Bool} {l1 l2 : Addr} {xs ys : List V} {g : TG} {tb : TS} {D : Ends} {σ : St} {H : Hp} (Pv : Nat -> St -> Hp -> Prop) (h0 : Pv 0 σ H) (hl : ∀ i σ H, Pv i σ H -> SqK b1 K H l1 xs /\ SqK b2 K H l2 ys)
  (hs : ∀ i x y σ H p H', xs[i]? = some x -> ys[i]? = some y -> Pv i σ H -> H p = none -> Same H H' -> H' p = some (.tup [x, y]) -> g (.ref p) σ H' fun σ2 H2 => tb { D with nx := Pv (i + 1), ct := Pv (i + 1), bk := D.nx } σ2 H2)
  (hd : ∀ σ H, Pv (min xs.length ys.length) σ H -> D.nx σ H) : m6w (Itz K b1 b2 l1 l2) g tb D σ H := by
 refine ⟨fun i m σ H => m = min xs.length ys.length - i /\ i <= min xs.length ys.length /\ Pv i σ H, ⟨min xs.length ys.length, by simp, Nat.zero_le _, h0⟩, ?_⟩
 rintro i m σ H ⟨rfl, hi, p⟩
 obtain ⟨e1, e2⟩ := hl i σ H p
 by_cases hlt : i < min xs.length ys.length
 ·have hx : xs[i]? = some (xs[i]'(by omega)) := List.getElem?_eq_getElem _
  have hy : ys[i]? = some (ys[i]'(by omega)) := List.getElem?_eq_getElem _
  refine .inr ⟨⟨xs, ys, _, _, e1, e2, hx, hy⟩, Pv (i + 1), fun σ' H' p' => ⟨min xs.length ys.length - (i + 1), by omega, rfl, hlt, p'⟩, fun v H' y => ?_⟩
  obtain ⟨q, x, y, rfl, nq, rfl, k1, k2⟩ := y
  exact hs i x y σ H q _ (k1 _ e1) (k2 _ e2) p nq (Same.upd nq) a5l
 ·have e : i = min xs.length ys.length := by omega
  subst e
  exact .inl ⟨⟨xs, ys, e1, e2, by omega⟩, hd σ H p⟩
end L2
namespace L2
open PySem PySem.Spec PyProof.Rows
noncomputable def b3q (X : Cx) (scope : Scope) (cl : List (Str × Addr)) (C : Addr) (s₃ : Shared) (H₃ : Hp) (fp : List Addr) (x y : Str) : Cx where
 prog := X.prog
 w := X.w
 K := X.K
 mg := X.mg
 base := X.base
 A := X.A
 N := x :: y :: X.N
 s₀ := s₃
 H₀ := H₃
 env := compEnvC scope cl C X.env
 outer := X.stack
 stack := X.stack
 ex := fp
 fn := fun _ => false
 calm := X.calm
 pn := []
 xe := fun _ _ => False
structure d0w (X : Cx) (scope : Scope) (x y : Str) : Prop where
 kind : scope.kind = .function
 h0u : ∀ y ∈ scope.names, y.2 ≠ .cell
 loc : ∀ y ∈ scope.names, y.2 = .local -> scope.names.lookup y.1 = some .local
 own : scope.names.lookup x = some .local
 n4p : scope.names.lookup y = some .local
 free : ∀ y ∈ scope.names, y.2 = .free -> X.env.kindOf y.1 = some .cell \/ X.env.kindOf y.1 = some .free
 nd : (x :: y :: X.N).Nodup
 vis : ∀ y ∈ X.N, scope.names.lookup y ≠ some .local
def k4i (J : It) (te : TE) (D : Addr) (σ : St) (H : Hp) (Q : VK) (_ : Tag Q) : Prop := ∃ (n : Nat) (W : Nat -> List V -> Hp -> Prop), W 0 [] H /\ ∀ i ys H, i <= n -> W i ys H -> H D = some (.lst ys) /\
 ((J.stop i H /\ Q (.ref D) H) \/ (i < n /\ J.go i H /\ ys.length < sizeLine /\ ∀ x H', J.yld i H x H' -> ∃ p u v, x = .ref p /\ H' p = some (.tup [u, v]) /\ te (some u :: some v :: σ) H' fun y H2 => H2 D = some (.lst ys) /\
  ∀ H3, a6j D H2 H3 -> H3 D = some (.lst (ys ++ [y])) -> W (i + 1) (ys ++ [y]) H3))
def m0n (wi : TI) (te : TE) : TE := fun σ H Q => wi σ H fun J H1 => ∀ D H2, H1 D = none -> Same H1 H2 -> H2 D = some (.lst []) -> k4i J te D σ H2 Q ⟨⟩
section
variable {X : Cx} {scope : Scope} {x y : Str} {cl : List (Str × Addr)} {pins : List (Addr × Obj)} {σ : St} {H : Hp} {s s₄ : Shared} {fp : List Addr}
theorem Inv.n2c (S : d0w X scope x y) (I : Inv X pins σ H s) (hcl : ∀ y c, cl.lookup y = some c -> (y, NameKind.free) ∈ scope.names /\ X.env.cells.lookup y = some c) (hcl2 : ∀ y, (y, NameKind.free) ∈ scope.names -> cl.lookup y = X.env.cells.lookup y)
  (hfp : ∀ b ∈ fp, i1x X pins H b) (hlt : ∀ b ∈ fp, b < s.heap.objs.size) {m : Str -> Option Value} (hns : s₄.heap.Ns s.heap.objs.size m) (hk : ∀ b o, s.heap.get? b = some o -> s₄.heap.get? b = some o) (hos : s₄.os = s.os) (hg : s₄.gens = s.gens) :
  Inv (b3q X scope cl s.heap.objs.size s H fp x y) [] (none :: none :: σ) H s₄ := by
 refine ⟨⟨I.ok.mod, ?_, I.ok.glob, I.ok.blt, Nat.le_refl _, fun y z c h1 h2 => I.ok.inj y z c (hcl y c h1).2 (hcl z c h2).2, fun y hy => ?_, (fun y c h => nomatch h), I.ok.hd, I.ok.frames, .inl rfl, fun b hb => ⟨Nat.ne_of_lt (hlt b hb), fun y c e => (hfp b hb).2.2.2.2.1 y c (hcl y c e).2⟩,
  fun b o e => I.bs b o e, Nat.le_trans I.ok.bsz I.sz, fun b o e hb => ?_, fun b hb hf => ?_, I.stack, I.j6u⟩,
  hos, by rw [hg]; exact I.bare, Un.kept hk, ⟨m, hns, fun i y v h1 h2 h3 => ?_⟩, fun y c e => ?_, I.hok.fresh (Nat.le_refl _), fun y c e => I.g6m y c (hcl y c e).2, fun p hp => absurd (show p ∈ ([] : List (Addr × Obj)) from hp) (by simp), I.hok.kept hk, by show (none :: none :: σ).length = (x :: y :: X.N).length; rw [List.length_cons, List.length_cons, List.length_cons, List.length_cons, I.len]⟩
 ·exact S.kind
 ·rcases b9k (env := X.env) (sc := scope) (x := y) hy with z | z
  ·obtain ⟨c, hc⟩ := I.ok.has y (S.free _ z rfl)
   exact ⟨c, (hcl2 y z).trans hc⟩
  ·exact absurd rfl (S.h0u _ z)
 ·rcases (hfp b hb).2.2.2.1 with z | z
  ·exact I.ok.m4y b o e z
  ·exact absurd (Nat.lt_of_lt_of_le (Heap.lt_size (I.ok.bs b o e).1) z) (Nat.lt_irrefl _)
 ·rcases List.mem_cons.mp (I.i0e b hf) with z | z
  ·exact (hfp b hb).2.1 z
  ·exact (hfp b hb).2.2.1 z
 ·match i, h1, h2 with
  | 0, h1, h2 => cases h2
  | 1, h1, h2 => cases h2
  | i + 2, h1, h2 =>
   have h1' : X.N[i]? = some y := by simpa [b3q] using h1
   have h2' : σ[i]? = some (some v) := by simpa using h2
   have hyN : y ∈ X.N := List.mem_of_getElem? h1'
   have hc : (relabel scope X.env).names.lookup y = some .cell \/ (relabel scope X.env).names.lookup y = some .free := by
    rcases h3 with z | z | z
    ·exfalso
     rcases d0v (env := X.env) scope.names _ z with q | ⟨q, _⟩
     ·exact S.vis y hyN q
     ·cases q
    ·exact .inl z
    ·exact .inr z
   have hfr : (y, NameKind.free) ∈ scope.names := by
    rcases b9k hc with z | z
    ·exact z
    ·exact absurd rfl (S.h0u _ z)
   obtain ⟨mX, hnX, hl⟩ := I.loc
   have hk2 := S.free _ hfr rfl
   have n1q : Vis X.env.scope y := by
    rcases hk2 with z | z
    ·exact .inr (.inl z)
    ·exact .inr (.inr z)
   obtain ⟨u, ru, lk⟩ := hl i y v h1' h2' n1q
   refine ⟨u, ru, .inr ⟨hc, ?_⟩⟩
   rcases lk with ⟨z, _⟩ | ⟨_, c, ec, o, ho, hd⟩
   ·rcases hk2 with q | q
    ·rw [q] at z; cases z
    ·rw [q] at z; cases z
   ·exact ⟨c, (hcl2 y hfr).trans ec, o, hk c o ho, hd⟩
 ·obtain ⟨v, o, ho, hd⟩ := I.cell y c (hcl y c e).2
  exact ⟨v, o, hk c o ho, hd⟩
theorem Inv.m2b {σ' : St} {H' : Hp} {s' : Shared} {h' : Heap} (I : Inv X pins σ H s) (hfp : ∀ b ∈ fp, i1x X pins H b) (J : Inv (b3q X scope cl s.heap.objs.size s H fp x y) [] σ' H' s') (hs : Heap.SameBut s.heap.objs.size s'.heap h') :
  Inv X pins σ H' { s' with heap := h' } := by
 have ne : ∀ {b : Addr} {o : Obj}, s.heap.get? b = some o -> b ≠ s.heap.objs.size := fun e => Nat.ne_of_lt (Heap.lt_size e)
 have u := J.base
 have u' : Un (frs X.stack) fp H H' s.heap h' := ⟨fun b o e n hb hx => hs.extBut b o (ne e) (u.keep b o e n hb hx), fun b o e n hb hx => (u.slot b o e n hb hx).elim fun sl q => ⟨sl, hs.extBut b _ (ne e) q⟩, u.free,
  fun b o e hx => (u.there b o e hx).elim fun o' q => ⟨o', hs.extBut b o' (ne e) q⟩, u.tups, u.l1d, u.l1i⟩
 have nC : ∀ {b : Addr} {o : HO}, H' b = some o -> b ≠ s.heap.objs.size := fun {b o} e z => by
  have f : H' s.heap.objs.size = none := J.free
  rw [z, f] at e; cases e
 have ok : HOk X.prog X.w H' h' := fun b o e => (J.hok b o e).stay (fun c v hc q => hs.extBut c v (by
  rcases hc with z | z
  ·rw [z]; exact nC e
  ·exact nC z) q) (fun _ q => q) fun _ _ q => q
 exact I.call' (s' := { s' with heap := h' }) (ch := fp) J.os u' ok J.bare fun b hb => ⟨(hfp b hb).2.2.2.1, (hfp b hb).2.1, (hfp b hb).2.2.2.2.1, (hfp b hb).2.2.2.2.2⟩
end
section
variable {X : Cx} {scope : Scope} {x y : Str} {pins : List (Addr × Obj)} {σ : St} {elt iter : Expr} {px py tpos pos : Pos} {kk : Nat} {wi : TI} {te : TE}
theorem h0y {s₂ : Shared} {H1 : Hp} {it : Addr} {fp : List Addr} {tn : Nat -> Heap -> Prop} {J : It} {Q : VK} {RR : Value -> Addr -> Result -> Shared -> Prop} {E : Value -> Shared -> Prop} {cl : List (Str × Addr)}
  (S : d0w X scope x y) (hc : X.calm = true) (he : ∀ cl C s₃ H₃ fp, PE (b3q X scope cl C s₃ H₃ fp x y) elt te)
  (hcl : ∀ y c, cl.lookup y = some c -> (y, NameKind.free) ∈ scope.names /\ X.env.cells.lookup y = some c) (hcl2 : ∀ y, (y, NameKind.free) ∈ scope.names -> cl.lookup y = X.env.cells.lookup y)
  (I2 : Inv X pins σ H1 s₂) (T : Turn X.prog X.w X.K (.Tuple [.Name x px, .Name y py] kk tpos) J fp it tn) (st2 : tn 0 s₂.heap) (f2 : ∀ b ∈ fp, i1x X pins H1 b) (h : ∀ D H2, H1 D = none -> Same H1 H2 -> H2 D = some (.lst []) -> k4i J te D σ H2 Q ⟨⟩)
  (hRR : ∀ (D C : Addr) (s' : Shared) (H' : Hp), (∃ m, s'.heap.Ns C m) -> (∀ h' , Heap.SameBut C s'.heap h' -> Inv X pins σ H' { s' with heap := h' }) -> i1x X pins H' C -> Q (.ref D) H' -> RR (.ref D) C (.ok .next) s') :
  wpAny (model X.prog X.w) X.A (newList []) (fun acc s₃ => wpAny (model X.prog X.w) X.A (newFunctionEnv scope X.env.globals cl [] X.env.qual none .none (some X.env)) (fun cenv s₄ =>
   codeAny (model X.prog X.w) X.A (.compStart (.ListComp elt [⟨.Tuple [.Name x px, .Name y py] kk tpos, iter, [], 0⟩] scope pos) 0 (.ref it) acc { cenv with scope := relabel scope X.env }) (RR acc cenv.locals) s₄) E s₃) E s₂ := by
 have hfr : H1 s₂.heap.objs.size = none := I2.hok.fresh (Nat.le_refl _)
 have hCW := h s₂.heap.objs.size _ hfr (Same.upd hfr) a5l
 refine wpAny_newObj_type ?_
 have I3 : Inv X pins σ (upd H1 s₂.heap.objs.size (.lst [])) { s₂ with heap := s₂.heap.push { cls := .type "list", data := .seq ([] : List Value).toArray }, toks := s₂.toks } :=
  I2.laid (t' := s₂.toks) (fun b u e => Heap.get?_push_of_some _ e) (Nat.le_refl _) ⟨Nat.zero_le _, [], 0, .nil, Heap.get?_push_size _ rfl⟩
 have nD : ∀ b ∈ fp, b ≠ s₂.heap.objs.size := fun b hb => by
  obtain ⟨o, e, _⟩ := T.obj 0 _ st2 b hb
  exact Nat.ne_of_lt (Heap.lt_size e)
 have f3 : ∀ b ∈ fp, i1x X pins (upd H1 s₂.heap.objs.size (.lst [])) b := fun b hb => ⟨by rw [a4v (nD b hb)]; exact (f2 b hb).1, (f2 b hb).2⟩
 generalize hH3 : upd H1 s₂.heap.objs.size (.lst []) = H3 at *
 have st3 : tn 0 (s₂.heap.push { cls := .type "list", data := .seq ([] : List Value).toArray }) := T.keep _ _ _ st2 fun b _ o e => Heap.get?_push_of_some _ e
 have m1t : ∀ b ∈ fp, b < (s₂.heap.push { cls := .type "list", data := .seq ([] : List Value).toArray }).objs.size := fun b hb => by
  obtain ⟨o, e, _⟩ := T.obj 0 _ st3 b hb
  exact Heap.lt_size e
 show wpAny (model X.prog X.w) X.A (newFunctionEnv scope X.env.globals cl [] X.env.qual none .none (some X.env)) _ E { s₂ with heap := s₂.heap.push { cls := .type "list", data := .seq ([] : List Value).toArray }, toks := s₂.toks }
 generalize hs3 : ({ s₂ with heap := s₂.heap.push { cls := .type "list", data := .seq ([] : List Value).toArray }, toks := s₂.toks } : Shared) = s₃ at *
 have eh : s₃.heap = s₂.heap.push { cls := .type "list", data := .seq ([] : List Value).toArray } := by rw [← hs3]
 rw [<- eh] at st3 m1t
 generalize s₂.heap.objs.size = D at *
 refine wpAny_newFunctionEnv S.h0u (by intro y hy; simp at hy) (fun h₁ hns₁ hsb₁ => ?_) S.kind
 have hk1 : ∀ b o, s₃.heap.get? b = some o -> h₁.get? b = some o := fun b o e => hsb₁.extBut b o (Nat.ne_of_lt (Heap.lt_size e)) (Heap.get?_push_of_some _ e)
 have J0 : Inv (b3q X scope cl s₃.heap.objs.size s₃ H3 fp x y) [] (none :: none :: σ) H3 { s₃ with heap := h₁, toks := s₃.toks + ([] : List (Str × Value)).length } := I3.n2c S hcl hcl2 f3 m1t hns₁ hk1 rfl rfl
 obtain ⟨n0, W, w0, turn⟩ := hCW
 have loop : codeAny (model X.prog X.w) X.A (.compLoop (.ListComp elt [⟨.Tuple [.Name x px, .Name y py] kk tpos, iter, [], 0⟩] scope pos) 0 (.ref it) (.ref D) (compEnvC scope cl s₃.heap.objs.size X.env)) (RR (.ref D) s₃.heap.objs.size) { s₃ with heap := h₁, toks := s₃.toks + ([] : List (Str × Value)).length } := by
  refine codeAny_loop rfl (fun n s' => ∃ i ys o o' H', Inv (b3q X scope cl s₃.heap.objs.size s₃ H3 fp x y) [] (o :: o' :: σ) H' s' /\ tn i s'.heap /\ (∀ b ∈ fp, H' b = none) /\ W i ys H' /\ i <= n0 /\ n = n0 - i) (fun n s5 hI => ?_) n0
   ⟨0, [], none, none, H3, J0, T.keep _ _ _ st3 (fun b _ o e => hk1 b o e), fun b hb => (f3 b hb).1, w0, Nat.zero_le _, rfl⟩
  obtain ⟨i, ys, o5, o5', H5, I5, st5, fr5, w5, hin, hnn⟩ := hI
  have stat : ∀ {H' : Hp}, (∀ b ∈ fp, H' b = none) -> ∀ b ∈ fp, i1x (b3q X scope cl s₃.heap.objs.size s₃ H3 fp x y) [] H' b := fun hn b hb =>
   ⟨hn b hb, Nat.ne_of_lt (m1t b hb), fun z => (List.mem_cons.mp (I3.i0e b z)).elim (fun q => (f3 b hb).2.1 q) fun q => (f3 b hb).2.2.1 q, .inl hb, fun y c e => (f3 b hb).2.2.2.2.1 y c (hcl y c e).2, fun p hp => absurd (show p ∈ ([] : List (Addr × Obj)) from hp) (by simp)⟩
  show wpAny _ X.A ((compTurn (.ListComp elt [⟨.Tuple [.Name x px, .Name y py] kk tpos, iter, [], 0⟩] scope pos) 0 (.ref it) (.ref D) (compEnvC scope cl s₃.heap.objs.size X.env)).onRaise (fun x => do noteFrame x (compEnvC scope cl s₃.heap.objs.size X.env); theTreesLotGoes x)) _ _ s5
  refine wpAny_noted ?_
  rw [compTurn_list1]
  refine wpAny_bind (wpAny_standAt (wpAny_bind ?_))
  obtain ⟨hD5, alt⟩ := turn i ys H5 hin w5
  rcases alt with ⟨stop, q⟩ | ⟨hlt, go, hsz, step⟩
  ·refine wpAny_mono (T.done (b3q X scope cl s₃.heap.objs.size s₃ H3 fp x y) rfl rfl rfl hc i [] s5 _ H5 _ I5 (stat fr5) st5 stop) (fun r s6 ⟨hr, I6⟩ => ?_) fun _ _ z => z
   subst hr
   refine wpAny_pure ?_
   obtain ⟨m6, hn6, _⟩ := I6.loc
   exact hRR D s₃.heap.objs.size s6 H5 ⟨m6, hn6⟩ (fun h' hs' => I3.m2b f3 I6 hs') (I3.l6i (Nat.le_refl _) I6.free) q
  ·refine wpAny_mono (T.item (b3q X scope cl s₃.heap.objs.size s₃ H3 fp x y) rfl rfl rfl hc i [] s5 _ H5 _ I5 (stat fr5) st5 go) (fun r s6 ⟨u, hr, h6⟩ => ?_) fun _ _ z => z
   subst hr
   refine wpAny_bind (wpAny_mono h6 (fun _ s7 ⟨v, H7, I7, r7, y7, st7, fr7⟩ => ?_) fun _ _ z => z)
   have I7' := I7.pinned (stat fr7) (T.obj _ _ st7)
   obtain ⟨p7, u1, u2, e7, t7, step7⟩ := step v H7 y7
   subst e7
   have G1 := a5g (X := b3q X scope cl s₃.heap.objs.size s₃ H3 fp x y) (pos := px) (i := 0) (x := x) S.nd rfl (.inl (lookup_relabel_local S.own)) (.inr (lookup_relabel_local S.own))
   have G2 := a5g (X := b3q X scope cl s₃.heap.objs.size s₃ H3 fp x y) (pos := py) (i := 1) (x := y) S.nd rfl (.inl (lookup_relabel_local S.n4p)) (.inr (lookup_relabel_local S.n4p))
   have G := l9q (X := b3q X scope cl s₃.heap.objs.size s₃ H3 fp x y) (pos := tpos) (k := kk) (n := 2) hc (i1w G1 (i1w G2 l1l)) rfl rfl
   refine wpAny_bind (wpAny_mono (G _ s7 _ H7 (.ref p7) u (fun σ' H' => σ' = some u1 :: some u2 :: σ /\ H' = H7) I7' r7 ⟨p7, [u1, u2], rfl, SqT.of t7, rfl, _, _, rfl, _, _, rfl, rfl, rfl, rfl⟩) (fun _ s8 hs8 => ?_) fun _ _ z => False.elim z)
   obtain ⟨σ8, H8, I8, rfl, rfl⟩ := hs8
   refine wpAny_bind (wpAny_bind (wpAny_mono (he cl s₃.heap.objs.size s₃ H3 fp _ s8 _ _ _ I8 step7) (fun yv s9 hs9 => ?_) fun _ _ z => False.elim z))
   obtain ⟨y', H9, I9, r9, hD9, k9⟩ := hs9
   refine wpAny_bind (wpAny_mono (h0o (X := b3q X scope cl s₃.heap.objs.size s₃ H3 fp x y) _ s9 _ H9 (.ref D) [y'] (.ref D) [yv] (fun _ H' => H' = upd H9 D (.lst (ys ++ [y']))) I9 rfl (.cons r9 .nil) ⟨D, ys, y', rfl, rfl, hD9, hsz, rfl⟩) (fun _ sA hsA => ?_) fun _ _ z => False.elim z)
   obtain ⟨_, HA, IA, _, rfl⟩ := hsA
   refine wpAny_pure ?_
   have wA := k9 _ a6j.upd a5l
   refine wpAny_pure ⟨rfl, n0 - (i + 1), by omega, i + 1, ys ++ [y'], some u1, some u2, _, IA.f9y (pins := []) (pl := i0f fp s7.heap), T.keep _ _ _ st7 (fun b hb o e => (IA.pin (b, o) (List.mem_append_right _ (List.mem_append_right _ (c3i hb e)))).1), fun b hb => ?_, wA, hlt, rfl⟩
   obtain ⟨o, e, d⟩ := T.obj _ _ st7 b hb
   exact (IA.pin (b, o) (List.mem_append_right _ (List.mem_append_right _ (c3i hb e)))).2.1
 exact codeAny_compStart_list loop (T.self _ 0 _ _ _ (T.keep _ _ _ st3 fun b _ o e => hk1 b o e) loop)
theorem l7t (hi : PI X (.Tuple [.Name x px, .Name y py] kk tpos) iter wi) (he : ∀ cl C s₃ H₃ fp, PE (b3q X scope cl C s₃ H₃ fp x y) elt te) (S : d0w X scope x y) (hc : X.calm = true)
  (hs : ∀ x, foldedSetIterable iter X.env x = pure x := by intro _; rfl) : PE X (.ListComp elt [⟨.Tuple [.Name x px, .Name y py] kk tpos, iter, [], 0⟩] scope pos) (m0n wi te) := by
 intro pins s σ H Q I h
 obtain ⟨cl, hclos, hcl, hcl2⟩ := f3o (env := X.env) (sc := scope) fun y hy => I.ok.has y (S.free _ hy rfl)
 rw [eval_ListComp]
 refine wpAny_comprehension_free (use := none) rfl hs hclos S.kind S.loc ?_
 refine thn (hi pins s σ H _ I h) fun v s1 h1 => thn h1 fun itv s2 h2 => ?_
 obtain ⟨it, fp, tn, J, H2, e, I2, T, st2, f2, hW⟩ := h2
 subst e
 exact h0y (RR := fun acc C => compPost (model X.prog X.w) X.A X.xe none (EP X pins σ Q) acc C) S hc he hcl hcl2 I2 T st2 f2 hW fun D C s' H' hm hI _ hq =>
  hm.elim fun m hn => ⟨m, hn, fun h' hs' => ⟨.ref D, H', hI h' hs', rfl, hq⟩⟩
theorem l7u {i : Nat} {y' : Str} {py' spos : Pos} (hN : X.N.Nodup) (hyi : X.N[i]? = some y') (hy : X.env.scope.names.lookup y' = some .local) (hi : PI X (.Tuple [.Name x px, .Name y py] kk tpos) iter wi) (he : ∀ cl C s₃ H₃ fp, PE (b3q X scope cl C s₃ H₃ fp x y) elt te) (S : d0w X scope x y) (hc : X.calm = true)
  (hsw : swapsWith (.ListComp elt [⟨.Tuple [.Name x px, .Name y py] kk tpos, iter, [], 0⟩] scope pos) (some (.Name y' py')) spos.line X.env = pure true := by rfl)
  (hs : ∀ x, foldedSetIterable iter X.env x = pure x := by intro _; rfl) : PS X (.Assign [.Name y' py'] (.ListComp elt [⟨.Tuple [.Name x px, .Name y py] kk tpos, iter, [], 0⟩] scope pos) spos) (n0d (m0n wi te) (l6s i)) := by
 intro pins s σ H D I h
 obtain ⟨cl, hclos, hcl, hcl2⟩ := f3o (env := X.env) (sc := scope) fun y hy => I.ok.has y (S.free _ hy rfl)
 rw [exec_Assign_Name_used _ _ _ _ hsw]
 refine wpAny_bind (wpAny_standAt (wpAny_bind ?_))
 show wpAny _ X.A (do let _ <- comprehension (.ListComp elt [⟨.Tuple [.Name x px, .Name y py] kk tpos, iter, [], 0⟩] scope pos) scope X.env _ (newList []) false (eval iter X.env) (some (assign (.Name y' py') X.env))) _ _ s
 refine wpAny_bind (wpAny_mono (wpAny_comprehension_free (use := some (assign (.Name y' py') X.env)) (Q := fun _ s' => SP X pins D .next s') rfl hs hclos S.kind S.loc ?_) (fun _ s' hq => wpAny_pure (wpAny_pure hq)) fun _ _ e => e)
 refine thn (hi pins s σ H _ I h) fun v s1 h1 => thn h1 fun itv s2 h2 => ?_
 obtain ⟨it, fp, tn, J, H2, e, I2, T, st2, f2, hW⟩ := h2
 subst e
 refine h0y (Q := fun v H' => D.nx (σ.set i (some v)) H') (RR := fun acc C => compPost (model X.prog X.w) X.A X.xe (some (assign (.Name y' py') X.env)) (fun _ s' => SP X pins D .next s') acc C) S hc he hcl hcl2 I2 T st2 f2 hW fun L C s' H' hm hI hfp hq => ?_
 obtain ⟨m, hn⟩ := hm
 have I' : Inv X pins σ H' s' := hI s'.heap (Heap.SameBut.refl ..)
 show wpAny _ X.A (assign (.Name y' py') X.env (.ref L)) _ _ s'
 refine wpAny_assign_Name (h0e (v := .ref L) I' hN hyi (.inl hy) rfl (fun s'' I'' hsb => ?_) (.inr hy))
 obtain ⟨a, hsame, ha⟩ := hsb
 have nea : C ≠ a := by
  rcases ha with z | z
  ·rw [z]; exact hfp.2.1
  ·exact fun q => hfp.2.2.2.2.1 y' a z q.symm
 refine ⟨m, hn.sameBut hsame nea, fun h' hs' => ⟨_, H', I''.turned (t' := s''.toks) (it := C) (fun b o hb e => hs'.extBut b o hb e) hfp.1 hfp.2.1 hfp.2.2.2.1 hfp.2.2.2.2.1 hfp.2.2.2.2.2, hq⟩⟩
end
noncomputable def l2s (sc scope : Scope) (x y : Str) (N : List Str) : Bool :=
 (scope.kind == .function) && scope.names.all (fun y => y.2 != .cell) && scope.names.all (fun y => y.2 != .local || scope.names.lookup y.1 == some .local) && (scope.names.lookup x == some .local) && (scope.names.lookup y == some .local) &&
 scope.names.all (fun y => y.2 != .free || (sc.names.lookup y.1 == some .cell || sc.names.lookup y.1 == some .free)) && decide ((x :: y :: N).Nodup) && N.all (fun y => scope.names.lookup y != some .local)
theorem m0o {X : Cx} {sc scope : Scope} {x y : Str} {N : List Str} (hsc : X.env.scope = sc) (hN : X.N = N) (h : l2s sc scope x y N = true) : d0w X scope x y := by
 subst hN hsc
 unfold l2s at h
 simp only [Bool.and_eq_true, List.all_eq_true, beq_iff_eq, Bool.or_eq_true, bne_iff_ne, ne_eq, decide_eq_true_eq] at h
 obtain ⟨⟨⟨⟨⟨⟨⟨h1, h2⟩, h3⟩, h4⟩, h5⟩, h6⟩, h7⟩, h8⟩ := h
 exact ⟨h1, h2, fun y hy e => (h3 y hy).resolve_left fun z => z e, h4, h5, fun y hy e => (h6 y hy).resolve_left fun z => z e, h7, h8⟩
theorem k6a {K : PySem.W.Frag} {b1 b2 : Bool} {l1 l2 D : Addr} {xs ys : List V} {te : TE} {σ : St} {H : Hp} {Q : VK} (Pv : Nat -> List V -> Hp -> Prop) (h0 : Pv 0 [] H) (hsz : xs.length <= sizeLine)
  (hD : ∀ i zs H, i <= min xs.length ys.length -> Pv i zs H -> H D = some (.lst zs) /\ SqK b1 K H l1 xs /\ SqK b2 K H l2 ys /\ zs.length = i)
  (hs : ∀ i x y zs H p H', xs[i]? = some x -> ys[i]? = some y -> Pv i zs H -> H p = none -> Same H H' -> H' p = some (.tup [x, y]) -> te (some x :: some y :: σ) H' fun z H2 => H2 D = some (.lst zs) /\ ∀ H3, a6j D H2 H3 -> H3 D = some (.lst (zs ++ [z])) -> Pv (i + 1) (zs ++ [z]) H3)
  (hd : ∀ zs H, Pv (min xs.length ys.length) zs H -> Q (.ref D) H) : k4i (Itz K b1 b2 l1 l2) te D σ H Q ⟨⟩ := by
 refine ⟨min xs.length ys.length, Pv, h0, fun i zs H hi p => ?_⟩
 obtain ⟨e1, e2, e3, e4⟩ := hD i zs H hi p
 refine ⟨e1, ?_⟩
 by_cases hlt : i < min xs.length ys.length
 ·have hx : xs[i]? = some (xs[i]'(by omega)) := List.getElem?_eq_getElem _
  have hy : ys[i]? = some (ys[i]'(by omega)) := List.getElem?_eq_getElem _
  refine .inr ⟨hlt, ⟨xs, ys, _, _, e2, e3, hx, hy⟩, by omega, fun v H' q => ?_⟩
  obtain ⟨q, x, y, rfl, nq, rfl, k1, k2⟩ := q
  exact ⟨q, x, y, rfl, a5l, hs i x y zs H q _ (k1 _ e2) (k2 _ e3) p nq (Same.upd nq) a5l⟩
 ·have e : i = min xs.length ys.length := by omega
  subst e
  exact .inl ⟨⟨xs, ys, e2, e3, by omega⟩, hd zs H p⟩
end L2
namespace L2
open PySem PySem.Spec PyProof.Rows
def n2d (K : PySem.W.Frag) (tl : TE) : TI := fun σ H R => tl σ H fun x H1 => match x with
 | .ref a => (match H1 a with
  | some (.tup _) => R (Itt K a) H1
  | _ => False)
 | _ => False
theorem m2c {X : Cx} {tg l : Expr} {tl : TE} (hl : PE X l tl) : PI X tg l (n2d X.K tl) := by
 intro pins s σ H R I h
 refine thn (hl pins s σ H _ I h) fun v s1 ⟨x, H1, I1, r1, q1⟩ => ?_
 cases x with
 | ref a =>
  have q' : (match H1 a with
   | some (.tup _) => R (Itt X.K a) H1
   | _ => False) := q1
  split at q'
  ·rename_i xs e
   cases r1
   obtain ⟨its, rv, p, hz⟩ := I1.tuple (SqT.of e)
   refine wpAny_pyIter_tuple (show s1.heap.IsTuple a its.toArray from p) ?_
   refine ⟨s1.heap.objs.size, [s1.heap.objs.size], _, _, H1, rfl, I1.kept (t' := s1.toks) fun b o e => Heap.get?_push_of_some _ e, k5k a _, ⟨_, Heap.get?_push_size _ rfl, rfl, rfl⟩, fun b hb => ?_, q'⟩
   have e : b = s1.heap.objs.size := by simpa using hb
   subst e
   exact I1.l6i (Nat.le_refl _) (I1.hok.fresh (Nat.le_refl _))
  ·exact q'.elim
 | _ => exact False.elim q1
noncomputable def rSlG : V -> Option Int -> Option Int -> Hp -> VK -> Prop := fun x lo hi H Q => match x with
 | .ref a => (match H a with
  | some (.lst xs) => New H (.lst (g5j xs lo hi)) Q ⟨⟩
  | some (.tup xs) => ¬ (HT.sIx xs.length 0 lo = 0 /\ HT.sIx xs.length xs.length hi = xs.length) /\ New H (.tup (g5j xs lo hi)) Q ⟨⟩
  | _ => False)
 | _ => False
theorem n4q {X : Cx} : SlR X rSlG := by
 intro pins s σ H x v vl vu lo hi sl Q I rx hs pl pu h
 cases x with
 | ref a =>
  have h' : (match H a with
   | some (.lst xs) => New H (.lst (g5j xs lo hi)) Q ⟨⟩
   | some (.tup xs) => ¬ (HT.sIx xs.length 0 lo = 0 /\ HT.sIx xs.length xs.length hi = xs.length) /\ New H (.tup (g5j xs lo hi)) Q ⟨⟩
   | _ => False) := h
  split at h'
  ·rename_i xs e
   exact j6x pins s σ H _ v vl vu lo hi sl Q I rx hs pl pu ⟨_, xs, rfl, SqL.of e, h'.raw⟩
  ·rename_i xs e
   exact m6k pins s σ H _ v vl vu lo hi sl Q I rx hs pl pu ⟨_, xs, rfl, SqT.of e, h'.1, h'.2.raw⟩
  ·exact h'.elim
 | _ => exact False.elim h
theorem l2t {K : PySem.W.Frag} {a D : Addr} {xs : List V} {te : TE} {σ : St} {H : Hp} {Q : VK} (Pv : Nat -> List V -> Hp -> Prop) (h0 : Pv 0 [] H) (hsz : xs.length <= sizeLine)
  (hD : ∀ i ys H, i <= xs.length -> Pv i ys H -> H D = some (.lst ys) /\ SqT K H a xs /\ ys.length = i)
  (hs : ∀ i x ys H, xs[i]? = some x -> Pv i ys H -> te (some x :: σ) H fun y H2 => H2 D = some (.lst ys) /\ ∀ H3, a6j D H2 H3 -> H3 D = some (.lst (ys ++ [y])) -> Pv (i + 1) (ys ++ [y]) H3)
  (hd : ∀ ys H, Pv xs.length ys H -> Q (.ref D) H) : h6g (Itt K a) te D σ H Q ⟨⟩ := by
 refine ⟨xs.length, Pv, h0, fun i ys H hi p => ?_⟩
 obtain ⟨e1, e2, e3⟩ := hD i ys H hi p
 refine ⟨e1, ?_⟩
 by_cases hlt : i < xs.length
 ·refine .inr ⟨hlt, ⟨xs, xs[i], e2, by simp [hlt]⟩, by omega, fun x H' y => ?_⟩
  obtain ⟨e, y⟩ := y
  subst e
  exact hs i x ys _ (y xs e2) p
 ·have e : i = xs.length := by omega
  subst e
  exact .inl ⟨⟨xs, e2, Nat.le_refl _⟩, hd ys H p⟩
theorem k4j {X : Cx} {K : PySem.W.Frag} {e : Expr} {f : Str} {pos : Pos} {ta : TE} (hK : X.K = K) (he : PE X e ta) (hb : attributeBase e f X.env (eval e X.env) = eval e X.env) : PE X (.Attribute e f pos) (m1u K ta f) := hK ▸ a2p he hb
end L2
namespace L2
open PySem PySem.Spec PyProof.Rows
section
variable {prog : Program} {w : World} {A : Around} {E : Value -> Shared -> Prop} {s : Shared}
theorem h6i {T newId : String} {self : Value} {rest : List Value} {kw : List (Str × Value)} (hl : typeLookup (.type T) "__init__" = pure (some (.builtin "object.__init__")))
  (hm : Bind.madeBy (.type T) = pure (some newId)) (hne : (some newId != some "object.__new__") = true) :
  Meets (Builtin.«object.__init__» ⟨self :: rest, kw⟩) (fun _ R s => s.TypeIs self T /\ R (.ok (.ret .none)) s) := by
 refine Meets.of_wp fun prog w A R s hs => ?_
 obtain ⟨hT, hq⟩ := hs
 cases rest with
 | nil =>
  cases kw with
  | nil => exact wpAny_pure ⟨_, rfl, hq⟩
  | cons a kw =>
   repeat (any_goals (first | assumption | wp_step))
   exact ⟨_, rfl, hq⟩
 | cons a rest =>
  repeat (any_goals (first | assumption | wp_step))
  exact ⟨_, rfl, hq⟩
theorem l2u {T newId : String} {Bn : Builtin} {args : List Value} {kw : List (Str × Value)} {S : PySem.Spec} {Q : Value → Shared → Prop} (ft : TypeCalled T newId "object.__init__")
  (hne : (some newId != some "object.__new__") = true) (hct : checkTypeCall T ⟨args, kw⟩ = pure ()) (hcn : checkBuiltinCall newId ⟨.type T :: args, kw⟩ = pure ())
  (hok : ∀ obj, argsOk "object.__init__" ⟨obj :: args, kw⟩) (entryN : entryFor table newId = some Bn) (g : Meets (Bn ⟨.type T :: args, kw⟩) S)
  (h : S A.in1 (wants (fun obj s₁ => s₁.TypeIs obj T /\ Q obj s₁) E) s) : wpAny (model prog w) A (call (.type T) args kw) Q E s := by
 obtain ⟨c, tl, hmro⟩ := ft.mro
 have hmade := ft.made
 have hsub := ft.sub
 refine wpAny_call (codeAny_of_tree ?_)
 show wpAny _ _ (callAny (.type T) _) _ _ _
 refine wpAny_pure ⟨Code.quiet_builtin _ (by decide +kernel), codeAny_builtin F.entry_type_call ?_⟩
 rw [Around.under_plain (weight_type_call_type T args kw) (units_type_call_type T args kw)]
 have h1 := ft.notType
 have h2 := ft.canCreate
 repeat (any_goals (first | assumption | wp_step))
 refine codeAny_mono (codeAny_call_builtin ft.plain entryN (wpAny_of_eq hcn (g prog w A.in1 _ s h))) fun r s₁ hr => ?_
 cases r with
 | error e => exact hr
 | ok fl =>
  cases fl with
  | ret obj =>
   obtain ⟨hT, hq⟩ := hr
   have hli := ft.init.lookup
   have hbi := ft.init.bind obj
   repeat (any_goals (first | assumption | wp_step))
   refine codeAny_mono (codeAny_call_builtin ft.init.plain F.entry_object_init (ft.init.check _ _ _ _ _ _ _ _ hT (hok obj) (h6i ft.init.lookup ft.made hne prog w A.in1 (wants (fun r s₂ => r = .none /\ Q obj s₂) E) s₁ ⟨hT, rfl, hq⟩))) fun r₂ s₂ hr₂ => ?_
   cases r₂ with
   | error e => exact hr₂
   | ok fl₂ =>
    cases fl₂ with
    | ret r =>
     obtain ⟨rfl, hq⟩ := hr₂
     repeat (any_goals (first | assumption | wp_step))
    | _ => exact hr₂.elim
  | _ => exact hr.elim
end
theorem i2k (a v : Value) : checkTypeCall "enumerate" ⟨[a], [(Str.ofString "start", v)]⟩ = pure () := by kernel_rfl
theorem i9y (a v : Value) : checkBuiltinCall "enumerate.__new__" ⟨[.type "enumerate", a], [(Str.ofString "start", v)]⟩ = pure () := by kernel_rfl
theorem l2v (a b v : Value) : argsOk "object.__init__" ⟨[a, b], [(Str.ofString "start", v)]⟩ := by
 unfold argsOk
 kernel_rfl
theorem k6b (l : Addr) (items : Array Value) (n : Int) (t : Tok) (h1 : -(2 ^ 62) <= n) (h2 : n < 2 ^ 62) :
  Meets (Builtin.«enumerate.__new__» ⟨[.type "enumerate", .ref l], [(Str.ofString "start", .int n t)]⟩) (fun _ R s => s.heap.IsList l items ∧
   R (.ok (.ret (.ref (s.heap.push (itO true l)).objs.size))) { s with heap := (s.heap.push (itO true l)).push { cls := .type "enumerate", data := .fields #[.none, .bool false, .ref s.heap.objs.size, rawInt n, .none, .none] } }) :=
 .of_wp fun prog w A R s h => by
  obtain ⟨hp, g, d, tk, os⟩ := s; obtain ⟨hl, h⟩ := h
  have hsub := sub_enumerate
  have hfi : Builtin.SmallTypes.fitsIndex n = true := by
   unfold Builtin.SmallTypes.fitsIndex
   simp
   omega
  have hL : Heap.IsList (Shared.heap ⟨hp, g, d, tk, os⟩) l items := hl
  wp_walk
  refine wpAny_stack_any fun st => wpAny_pure ?_
  split
  ·rename_i c _ _ _ _ _
   cases (c == Value.type "enumerate")
   ·wp_walk using wpAny_pyIter_list hL
    exact ⟨_, rfl, h⟩
   ·wp_walk using wpAny_pyIter_list hL
    exact ⟨_, rfl, h⟩
  ·wp_walk using wpAny_pyIter_list hL
   exact ⟨_, rfl, h⟩
section
variable {prog : Program} {w : World} {A : Around} {E : Value -> Shared -> Prop} {s : Shared}
theorem l2w {l : Addr} {items : Array Value} {n : Int} {t : Tok} {Q : Value -> Shared -> Prop} (hL : s.heap.IsList l items) (h1 : -(2 ^ 62) <= n) (h2 : n < 2 ^ 62)
  (h : ∀ h', IsEnum h' (s.heap.objs.size + 1) s.heap.objs.size n .none -> h'.IsListIter s.heap.objs.size l 0 -> (∀ b o, s.heap.get? b = some o -> h'.get? b = some o) -> Q (.ref (s.heap.objs.size + 1)) { s with heap := h' }) :
  wpAny (model prog w) A (call (.type "enumerate") [.ref l] [(Str.ofString "start", .int n t)]) Q E s := by
 refine l2u F.called_enumerate (by decide) (i2k _ _) (i9y _ _) (fun obj => l2v obj _ _) F.entry_enumerate_new (k6b l items n t h1 h2) ⟨hL, ?_⟩
 have hz : (s.heap.push (itO true l)).objs.size = s.heap.objs.size + 1 := Heap.size_push ..
 have g2 : ((s.heap.push (itO true l)).push { cls := .type "enumerate", data := .fields #[.none, .bool false, .ref s.heap.objs.size, rawInt n, .none, .none] }).get? (s.heap.push (itO true l)).objs.size = some _ := Heap.get?_push_size _ rfl
 have g1 : ((s.heap.push (itO true l)).push { cls := .type "enumerate", data := .fields #[.none, .bool false, .ref s.heap.objs.size, rawInt n, .none, .none] }).get? s.heap.objs.size = some (itO true l) := Heap.get?_push_of_some _ (Heap.get?_push_size _ rfl)
 show _ /\ _
 rw [hz] at g2 ⊢
 exact ⟨⟨_, g2, rfl⟩, h _ g2 ⟨_, g1, rfl, rfl⟩ fun b o e => Heap.get?_push_of_some _ (Heap.get?_push_of_some _ e)⟩
theorem k6c {e it l : Addr} {i : Nat} {n : Int} {items : Array Value} {x old : Value} {Q : Option Value -> Shared -> Prop} (he : IsEnum s.heap e it n old) (hit : s.heap.IsListIter it l i) (hl : s.heap.IsList l items) (hx : items[i]? = some x) (hne : e ≠ it)
  (hQ : ∀ h', IsEnumOut h' e it (n + 1) x s.heap.objs.size → h'.IsListIter it l (i + 1) → h'.get? s.heap.objs.size = some { cls := .type "tuple", data := .seq #[.int n s.toks, x] } →
   (∀ b o, b ≠ e -> b ≠ it -> s.heap.get? b = some o -> h'.get? b = some o) -> Q (some (.ref s.heap.objs.size)) { s with heap := h', toks := s.toks + 1 }) :
  wpAny (model prog w) A (pyNext (.ref e)) Q E s := by
 have hT : s.TypeIs (.ref e) "enumerate" := ⟨_, he, rfl⟩
 unfold pyNext
 refine wpAny_bind (wpAny_attempt (wpAny_callSpecial?_slot (name := Str.ofString "__next__") hT F.slot_enumerate_next
  (wpAny_call_entry F.slot_enumerate_next hT F.entry_enumerate_next ?_ (F.args_enumerate_next_1 _))))
 obtain ⟨hp, g, d, tk, os⟩ := s
 show wpAny _ _ (field (.ref e) 2 >>= _) _ _ _
 refine wpAny_bind (wpAny_field he rfl (x := .ref it) rfl ?_)
 refine wpAny_bind (wpAny_nextOf_list_item hit hl hx fun g1 hit1 s1 => ?_)
 replace s1 : Heap.SameBut it hp g1 := s1
 have he1 : IsEnum g1 e it n old := (s1.2 e hne).trans he
 show wpAny _ _ (field (.ref e) 3 >>= _) _ _ ⟨g1, g, d, tk, os⟩
 refine wpAny_bind (wpAny_field he1 rfl (x := rawInt n) rfl ?_)
 show wpAny _ _ (field (.ref e) 4 >>= _) _ _ ⟨g1, g, d, tk, os⟩
 refine wpAny_bind (wpAny_field he1 rfl (x := .none) rfl ?_)
 show wpAny _ _ (mkInt n >>= _) _ _ ⟨g1, g, d, tk, os⟩
 refine wpAny_bind (wpAny_mkInt ?_)
 show wpAny _ _ (setField (.ref e) 3 (rawInt (n + 1)) >>= _) _ _ ⟨g1, g, d, tk + 1, os⟩
 refine wpAny_bind (wpAny_setField_rec he1 (by simp) fun g2 he2 s2 => ?_)
 replace s2 : Heap.SameBut e g1 g2 := s2
 replace he2 : IsEnum g2 e it (n + 1) old := he2
 show wpAny _ _ (setField (.ref e) 4 .none >>= _) _ _ ⟨g2, g, d, tk + 1, os⟩
 refine wpAny_bind (wpAny_setField_rec he2 (by simp) fun g3 he3 s3 => ?_)
 replace s3 : Heap.SameBut e g2 g3 := s3
 replace he3 : IsEnum g3 e it (n + 1) old := he3
 show wpAny _ _ (newTuple [.int n tk, x] >>= _) _ _ ⟨g3, g, d, tk + 1, os⟩
 refine wpAny_bind (wpAny_newTuple ?_)
 have he4 : IsEnum (g3.push { cls := .type "tuple", data := .seq #[.int n tk, x] }) e it (n + 1) old := Heap.get?_push_of_some _ he3
 generalize hh4 : g3.push { cls := .type "tuple", data := .seq #[.int n tk, x] } = g4 at he4
 have hsz : g3.objs.size = hp.objs.size := by rw [s3.1, s2.1, s1.1]
 have hel : e < hp.objs.size := Heap.lt_size he
 have ht4 : g4.get? hp.objs.size = some { cls := .type "tuple", data := .seq #[.int n tk, x] } := by rw [← hh4, ← hsz]; exact Heap.get?_push_size _ rfl
 have hk4 : ∀ b o, b ≠ e -> b ≠ it -> hp.get? b = some o -> g4.get? b = some o := fun b o hbe hbi hb => by
  rw [<- hh4]; exact Heap.get?_push_of_some _ (s3.extBut b o hbe (s2.extBut b o hbe (s1.extBut b o hbi hb)))
 have hit4 : g4.IsListIter it l (i + 1) := by
  rw [<- hh4]; exact hit1.at fun o ho => Heap.get?_push_of_some _ (s3.extBut _ _ (Ne.symm hne) (s2.extBut _ _ (Ne.symm hne) ho))
 show wpAny _ _ (Builtin.SmallTypes.ownedTupleIsFree (.ref e) >>= _) _ _ ⟨g4, g, d, tk + 1, os⟩
 rw [hsz]
 clear hh4 he3 s3 he2 s2 he1 s1 hit1 hsz g3 g2 g1
 refine wpAny_bind ?_
 unfold Builtin.SmallTypes.ownedTupleIsFree
 refine wpAny_bind (wpAny_field he4 rfl (x := .none) rfl (wpAny_pure ?_))
 simp only [if_true]
 refine wpAny_bind (wpAny_rule ?_)
 refine wpAny_bind (wpAny_field he4 rfl (x := old) rfl ?_)
 refine wpAny_bind (wpAny_setField_rec he4 (by simp) fun g5 he5 s5 => ?_)
 replace s5 : Heap.SameBut e g4 g5 := s5
 replace he5 : IsEnum g5 e it (n + 1) x := he5
 show wpAny _ _ (Builtin.SmallTypes.ownedTupleHandOut (.ref e) (.ref hp.objs.size) >>= _) _ _ ⟨g5, g, d, tk + 1, os⟩
 refine wpAny_bind ?_
 unfold Builtin.SmallTypes.ownedTupleHandOut
 refine wpAny_bind (wpAny_setField_rec he5 (by simp) fun g6 he6 s6 => ?_)
 replace s6 : Heap.SameBut e g5 g6 := s6
 replace he6 : IsEnumOut g6 e it (n + 1) x hp.objs.size := he6
 refine wpAny_setField_rec he6 (by simp) fun g7 he7 s7 => ?_
 replace s7 : Heap.SameBut e g6 g7 := s7
 replace he7 : IsEnumOut g7 e it (n + 1) x hp.objs.size := he7
 refine wpAny_bind (wpAny_letGo (wpAny_pure ⟨_, rfl, wpAny_pure (hQ g7 he7 ?_ ?_ ?_)⟩))
 ·exact hit4.at fun o ho => s7.extBut _ _ (Ne.symm hne) (s6.extBut _ _ (Ne.symm hne) (s5.extBut _ _ (Ne.symm hne) ho))
 ·exact s7.extBut _ _ (Nat.ne_of_gt hel) (s6.extBut _ _ (Nat.ne_of_gt hel) (s5.extBut _ _ (Nat.ne_of_gt hel) ht4))
 ·exact fun b o hbe hbi hb => s7.extBut b o hbe (s6.extBut b o hbe (s5.extBut b o hbe (hk4 b o hbe hbi hb)))
theorem l2x {e it l : Addr} {i : Nat} {n : Int} {items : Array Value} {old : Value} {Q : Option Value -> Shared -> Prop} (hh : A.handled = none) (he : IsEnum s.heap e it n old) (hit : s.heap.IsListIter it l i) (hl : s.heap.IsList l items) (hx : items[i]? = none)
  (hQ : ∀ h', Heap.ExtBut it s.heap h' -> Q none { s with heap := h' }) : wpAny (model prog w) A (pyNext (.ref e)) Q E s := by
 have hT : s.TypeIs (.ref e) "enumerate" := ⟨_, he, rfl⟩
 unfold pyNext
 refine wpAny_bind (wpAny_attempt (wpAny_callSpecial?_slot (name := Str.ofString "__next__") hT F.slot_enumerate_next
  (wpAny_call_entry F.slot_enumerate_next hT F.entry_enumerate_next ?_ (F.args_enumerate_next_1 _))))
 show wpAny _ _ (field (.ref e) 2 >>= _) _ _ _
 refine wpAny_bind (wpAny_field he rfl (x := .ref it) rfl ?_)
 refine wpAny_bind (wpAny_nextOf_list_end hh hit hl hx fun h' x he' hx' => ?_)
 obtain ⟨o, ho, hc⟩ := hx'
 refine wpAny_bind (wpAny_isInstance (T := "StopIteration") (b := true) ⟨o, ho, hc⟩ isSubtype_stop ?_)
 exact wpAny_pure (hQ _ he')
end
noncomputable def Ite (K : PySem.W.Frag) (l : Addr) (n : Int) : It :=
 ⟨fun i H => ∃ xs x, SqL K H l xs /\ xs[i]? = some x,
  fun i H v H' => ∃ p x, v = .ref p ∧ H p = none ∧ H' = upd H p (.tup [.int (n + (i : Int)), x]) ∧ ∀ xs, SqL K H l xs → xs[i]? = some x,
  fun i H => ∃ xs, SqL K H l xs ∧ xs.length ≤ i⟩
theorem l2y {P : Program} {w : World} {K : PySem.W.Frag} {elts : List Expr} {kk : Nat} {tpos : Pos} {e it l : Addr} {n : Int} (hne : e ≠ it) :
  Turn P w K (.Tuple elts kk tpos) (Ite K l n) [e, it] e (fun i h => (∃ old, IsEnum h e it (n + (i : Int)) old) /\ h.IsListIter it l i) where
 mem := by simp
 obj := fun i h st b hb => by
  obtain ⟨⟨old, he⟩, ⟨o1, e1, _, d1⟩⟩ := st
  simp only [List.mem_cons, List.not_mem_nil, or_false] at hb
  rcases hb with rfl | rfl
  ·exact ⟨_, he, fun v z => by cases z⟩
  ·exact ⟨_, e1, fun v z => by rw [d1] at z; cases z⟩
 keep := fun i h h' st k => by
  obtain ⟨⟨old, he⟩, h1⟩ := st
  exact ⟨⟨old, k e (by simp) _ he⟩, h1.at fun o e => k it (by simp) o e⟩
 item := by
  intro X hP hw hK hc i pins s σ H E I hf st hg
  subst hP hw hK
  obtain ⟨xs, x, hq1, hx⟩ := hg
  obtain ⟨us, r1, p1, _⟩ := I.list hq1
  obtain ⟨u, hu, ru⟩ := r1.get hx
  obtain ⟨⟨old, he⟩, h1⟩ := st
  refine k6c he h1 p1.isList (x := u) (by simpa using hu) hne fun h' he' h1' pT kk' => ?_
  refine ⟨.ref s.heap.objs.size, rfl, wpAny_letOwnedTupleGo_enum (s := { s with heap := h', toks := s.toks + 1 }) he' fun h'' he'' sb => ?_⟩
  replace sb : Heap.SameBut e h' h'' := sb
  have k2 : ∀ c o, c ∉ [e, it] -> s.heap.get? c = some o -> h''.get? c = some o := fun c o hc q => by
   simp only [List.mem_cons, List.not_mem_nil, or_false, not_or] at hc
   exact sb.extBut _ _ hc.1 (kk' c o hc.1 hc.2 q)
  have I1 : Inv X pins σ H { s with heap := h'', toks := s.toks + 1 } := I.i2i (t' := s.toks + 1) k2 hf
  have elt : e < s.heap.objs.size := Heap.lt_size he
  have pT2 : h''.get? s.heap.objs.size = some { cls := .type "tuple", data := .seq #[.int (n + (i : Int)) s.toks, u] } := sb.extBut _ _ (Nat.ne_of_gt elt) pT
  have fo := I.l6i (b := s.heap.objs.size) (Nat.le_refl _) (I.hok.fresh (Nat.le_refl _))
  have nT : H s.heap.objs.size = none := I.hok.fresh (Nat.le_refl _)
  have I2 : Inv X pins σ (upd H s.heap.objs.size (.tup [.int (n + (i : Int)), x])) { s with heap := h'', toks := s.toks + 1 } := by
   refine I1.track ?_ fo.2.1 fo.2.2.2.2.1 fo.2.2.2.2.2 nT ⟨two_line, [.int (n + (i : Int)) s.toks, u], .cons ⟨_, rfl⟩ (.cons ru .nil), ⟨_, pT2, rfl, 0, rfl⟩⟩
   cases q : X.s₀.heap.get? s.heap.objs.size with
   | none => rfl
   | some o => exact absurd (Nat.lt_of_lt_of_le (Heap.lt_size q) I.sz) (Nat.lt_irrefl _)
  have ne : ∀ b ∈ [e, it], b ≠ s.heap.objs.size := fun b hb q => by
   have lt : b < s.heap.objs.size := by
    simp only [List.mem_cons, List.not_mem_nil, or_false] at hb
    rcases hb with rfl | rfl
    ·exact elt
    ·obtain ⟨_, z, _⟩ := h1; exact Heap.lt_size z
   exact Nat.ne_of_lt lt q
  refine ⟨.ref s.heap.objs.size, _, I2, rfl, ⟨_, x, rfl, nT, rfl, fun xs' h => by rw [I.i1v h hq1]; exact hx⟩,
   ⟨⟨_, by rw [Int.natCast_add, <- Int.add_assoc]; exact he''⟩, h1'.at fun o z => sb.extBut _ _ (Ne.symm hne) z⟩, fun b hb => by rw [a4v (ne b hb)]; exact (hf b hb).1⟩
 done := by
  intro X hP hw hK hc i pins s σ H E I hf st hg
  subst hP hw hK
  obtain ⟨xs, hq1, hle⟩ := hg
  obtain ⟨us, r1, p1, _⟩ := I.list hq1
  obtain ⟨⟨old, he⟩, h1⟩ := st
  have l1' := r1.length
  refine l2x (I.ok.hd hc) he h1 p1.isList (by simp; omega) fun h' kk' => ⟨rfl, I.i2i (t' := s.toks) (fun c o hc q => ?_) hf⟩
  simp only [List.mem_cons, List.not_mem_nil, or_false, not_or] at hc
  exact kk' c o hc.2 q
 self := fun _ _ _ _ _ st h => by
  obtain ⟨⟨old, he⟩, _⟩ := st
  exact wpAny_pyIter_enum he h
end L2
namespace L2
open PySem PySem.Spec PyProof.Rows
section
variable {M : Model} {A : Around} {E : Value -> Shared -> Prop} {s : Shared} {env : Env}
theorem k6d {pos : Pos} {T : String} {e : Expr} {rest : List Expr} {kws : List Keyword} {Q : Value -> Shared -> Prop}
  (h : wpAny M A (spliced (backTo pos (starEach (e :: rest) env))) (fun vs s₁ => wpAny M A (evalAll ((backToKw pos (keywordEach kws env)).map (·.2)))
   (fun kvs s₂ => wpAny M A (call (.type T) vs (((backToKw pos (keywordEach kws env)).filterMap (·.1)).zip kvs)) Q E s₂) E s₁) E s)
  (he : backTo pos (starEach (e :: rest) env) = (false, eval e env) :: backTo pos (starEach rest env))
  (hp : (backTo pos (starEach (e :: rest) env)).any (·.1) = false)
  (ha : (backToKw pos (keywordEach kws env)).all (·.1.isSome) = true)
  (hk : (backToKw pos (keywordEach kws env)).any (·.1.isNone) = false) :
  wpAny M A (callWith pos (.type T) [] (backTo pos (starEach (e :: rest) env)) (backToKw pos (keywordEach kws env))) Q E s := by
 have g : wpAny M A (evalArgs (.type T) true (backTo pos (starEach (e :: rest) env)) (backToKw pos (keywordEach kws env))) (fun a s₁ => wpAny M A (call (.type T) ([] ++ a.pos) a.kw) Q E s₁) E s := by
  rw [he] at h ⊢
  exact evalArgs_kwB ha h
 unfold callWith
 refine wpAny_bind (wpAny_holding (wpAny_mono g (fun a s₁ h₁ => wpAny_bind (wpAny_standAt ?_)) fun _ _ x => x))
 simp only [hp, hk, Bool.or_false]
 refine wpAny_bind (wpAny_pure ?_)
 exact wpAny_bind (wpAny_mono h₁ (fun r s₂ hr => wpAny_bind (wpAny_holding (wpAny_point (wpAny_pure hr)))) fun _ _ x => x)
end
def m7z (K : PySem.W.Frag) (t tk : TA) : TI := fun σ H R => t σ H fun vs H1 => tk σ H1 fun zs H2 => match vs, zs with
 | [.ref l], [.int n] => (match H2 l with
  | some (.lst _) => -(2 ^ 62) <= n /\ n < 2 ^ 62 /\ R (Ite K l n) H2
  | _ => False)
 | _, _ => False
theorem m2d {X : Cx} {elts : List Expr} {kk : Nat} {tpos : Pos} {e d : Expr} {t tk : TA} {p pos kp : Pos} (hg : Gl X "enumerate") (hm : X.mg "enumerate" = none) (ha : PA X [e] t) (hk : PK X [⟨some "start", d, kp⟩] tk)
  (he : backTo pos (starEach [e] X.env) = (false, eval e X.env) :: backTo pos (starEach [] X.env) := by rfl) (hpl : (backTo pos (starEach [e] X.env)).any (·.1) = false := by rfl) :
  PI X (.Tuple elts kk tpos) (.Call (.Name "enumerate" p) [e] [⟨some "start", d, kp⟩] pos) (m7z X.K t tk) := by
 intro pins s σ H R I h
 refine wpAny_Call_Name_kw (h0h I hg hm boot_enumerate ?_)
 refine k6d (thn (ha pos pins s σ H _ I h) fun us s1 ⟨vs, H1, I1, r, q⟩ => thn (hk pos pins s1 σ H1 _ I1 q) fun ws s2 ⟨zs, H2, I2, rz, q2⟩ => ?_) he hpl rfl rfl
 match vs, zs, q2 with
 | [.ref l], [.int n], q2 =>
  obtain ⟨u, e0, ra⟩ := r.one
  obtain ⟨u', e1, td, ed⟩ := rz.one
  cases ra
  subst e0 e1 ed
  have q' : (match H2 l with
   | some (.lst _) => -(2 ^ 62) <= n /\ n < 2 ^ 62 /\ R (Ite X.K l n) H2
   | _ => False) := q2
  split at q'
  ·rename_i xs e
   obtain ⟨b1, b2, q3⟩ := q'
   obtain ⟨us, r1, p1, _⟩ := I2.list (SqL.of e)
   show wpAny _ _ (call (.type "enumerate") [.ref l] [(Str.ofString "start", .int n td)]) _ _ s2
   refine l2w p1.isList b1 b2 fun h' hz h1 hk => ?_
   refine wpAny_pyIter_enum (s := { s2 with heap := h' }) hz ?_
   have D : s2.heap.objs.size + 1 ≠ s2.heap.objs.size := Nat.succ_ne_self _
   refine ⟨_, [s2.heap.objs.size + 1, s2.heap.objs.size], _, _, H2, rfl, I2.kept (t' := s2.toks) hk, l2y D, ⟨⟨_, by rw [Int.natCast_zero, Int.add_zero]; exact hz⟩, h1⟩, fun b hb => ?_, q3⟩
   have hb' : s2.heap.objs.size <= b := by
    simp only [List.mem_cons, List.not_mem_nil, or_false] at hb
    rcases hb with rfl | rfl
    ·exact Nat.le_add_right _ _
    ·exact Nat.le_refl _
   exact I2.l6i hb' (I2.hok.fresh hb')
  ·exact q'.elim
theorem j7i {K : PySem.W.Frag} {l D : Addr} {n : Int} {xs : List V} {te : TE} {σ : St} {H : Hp} {Q : VK} (Pv : Nat -> List V -> Hp -> Prop) (h0 : Pv 0 [] H) (hsz : xs.length <= sizeLine)
  (hD : ∀ i zs H, i <= xs.length -> Pv i zs H -> H D = some (.lst zs) /\ SqL K H l xs /\ zs.length = i)
  (hs : ∀ i x zs H p H', xs[i]? = some x -> Pv i zs H -> H p = none -> Same H H' -> H' p = some (.tup [.int (n + (i : Int)), x]) -> te (some (.int (n + (i : Int))) :: some x :: σ) H' fun z H2 => H2 D = some (.lst zs) /\ ∀ H3, a6j D H2 H3 -> H3 D = some (.lst (zs ++ [z])) -> Pv (i + 1) (zs ++ [z]) H3)
  (hd : ∀ zs H, Pv xs.length zs H -> Q (.ref D) H) : k4i (Ite K l n) te D σ H Q ⟨⟩ := by
 refine ⟨xs.length, Pv, h0, fun i zs H hi p => ?_⟩
 obtain ⟨e1, e2, e4⟩ := hD i zs H hi p
 refine ⟨e1, ?_⟩
 by_cases hlt : i < xs.length
 ·have hx : xs[i]? = some (xs[i]'(by omega)) := List.getElem?_eq_getElem _
  refine .inr ⟨hlt, ⟨xs, _, e2, hx⟩, by omega, fun v H' q => ?_⟩
  obtain ⟨q, x, rfl, nq, rfl, k1⟩ := q
  exact ⟨q, _, x, rfl, a5l, hs i x zs H q _ (k1 _ e2) p nq (Same.upd nq) a5l⟩
 ·have e : i = xs.length := by omega
  subst e
  exact .inl ⟨⟨xs, e2, Nat.le_refl _⟩, hd zs H p⟩
end L2
namespace L2
open PySem PySem.Spec PyProof.Rows
section
variable {X : Cx} {o : Expr} {to : TE} {name : Str} {apos cpos : Pos} {T id : String} {r : V -> List V -> Hp -> VK -> Prop} {chk : V -> Hp -> Bool}
noncomputable def m8a : V -> List V -> Hp -> VK -> Prop := fun x vs H Q => match x, vs with
 | .str z, [.ref l] => (match H l with
  | some (.lst xs) => ∃ ys : List Str, xs = ys.map V.str /\ JoinOk z ys = true /\ Q (.str (Txt.join z ys)) H
  | _ => False)
 | _, _ => False
theorem i0j : ∀ {ys : List Str} {us : List Value}, Vals (ys.map V.str) us -> ∃ l : List (Str × Tok), us = strValues l /\ l.map (·.1) = ys
 | [], _, h => by
  cases h
  exact ⟨[], rfl, rfl⟩
 | y :: ys, _, h => by
  cases h with
  | cons a b =>
   obtain ⟨t, rfl⟩ := a
   obtain ⟨l, rfl, e⟩ := i0j b
   exact ⟨(y, t) :: l, rfl, by rw [List.map_cons, e]⟩
theorem k4k : MtR X "str.join" m8a := by
 intro pins s σ H x vs v us Q I rx rv h
 match x, vs, h with
 | .str z, [.ref l], h =>
  have h' : (match H l with
   | some (.lst xs) => ∃ ys : List Str, xs = ys.map V.str /\ JoinOk z ys = true /\ Q (.str (Txt.join z ys)) H
   | _ => False) := h
  split at h'
  ·rename_i xs hH
   obtain ⟨ys, rfl, ok, q⟩ := h'
   obtain ⟨t, rfl⟩ := rx
   obtain ⟨u, rfl, ru⟩ := rv.one
   cases ru
   obtain ⟨its, n, r, ho, hz⟩ := I.lst hH
   obtain ⟨lt, rfl, e⟩ := i0j r
   exact SC.join ⟨_, ho, rfl, _, rfl⟩ e ok fun t' k => ⟨.str _, H, I.tok k, ⟨_, rfl⟩, q⟩
  ·exact h'.elim
end
theorem joinOk_of {z : Str} {ys : List Str} {n : Nat} (h : ∀ y ∈ ys, y.length <= n) (hl : ys.length * (n + z.length) <= sizeLine) : JoinOk z ys = true := by
 unfold JoinOk
 have : ∀ (ys : List Str) (a : Nat), (∀ y ∈ ys, y.length <= n) -> ys.foldl (· + ·.length + z.length) a <= a + ys.length * (n + z.length) := by
  intro ys
  induction ys with
  | nil => intro a _; simp
  | cons y ys ih =>
   intro a h
   have i := ih (a + y.length + z.length) fun y hy => h y (List.mem_cons_of_mem _ hy)
   have hy := h y (List.mem_cons_self ..)
   rw [List.foldl_cons, List.length_cons, Nat.succ_mul]
   omega
 have t := this ys 0 h
 rw [List.foldl_toArray]
 unfold Builtin.Str.tooLong
 simp
 omega
end L2
namespace L2
open PySem PySem.Spec PyProof.Rows
structure n2e (K : PySem.W.Frag) (w : World) (d : Addr) : Prop where
 lk : ∃ es n, K.lookup d = some ⟨.type "dict", none, .dict es n, #[]⟩ ∧ PySem.W.KeysLit w.params es.toList
 ns : (d == sysModules) = false
def rNiD (K : PySem.W.Frag) (w : World) (neg : Bool) : R2 := fun x y H Q => match x, y with
 | .str z, .ref d => n2e K w d /\ ∃ r, PySem.W.nsIn K d z = some r /\ Q (.bl (r.isSome != neg)) H
 | _, _ => False
section
variable {X : Cx}
theorem l3a {K : PySem.W.Frag} {w : World} (eK : X.K = K) (eW : X.w = w) : OpR X (compareOp .NotIn) (rNiD K w true) := by
 subst eK eW
 intro pins s σ H x y v u Q I rx ry h
 match x, y, h with
 | .str z, .ref d, ⟨⟨⟨es, n, hl, hk⟩, hn⟩, r, e, q⟩ =>
  obtain ⟨t, rfl⟩ := rx
  cases ry
  refine wpAny_notIn_of (PySem.strKind_is X.prog X.w z t) hn (PySem.W.mapOf_K (prog := X.prog) I.kIn hl (hk)) ?_
  rw [PySem.W.find_K hl e]
  rw [Bool.bne_true] at q
  exact ⟨.bl (!r.isSome), H, I.tok _, rfl, q⟩
def rIxD (K : PySem.W.Frag) (w : World) : R2 := fun x y H Q => match x, y with
 | .ref d, .str z => n2e K w d /\ ∃ f, PySem.W.nsIn K d z = some (some (.ref f)) /\ Q (.ref f) H
 | _, _ => False
theorem m5c {K : PySem.W.Frag} {w : World} (eK : X.K = K) (eW : X.w = w) : IxR X (rIxD K w) := by
 subst eK eW
 intro value slice pins s σ H x y v u Q I rx ry h hs
 match x, y, h with
 | .ref d, .str z, ⟨⟨⟨es, n, hl, hk⟩, hn⟩, f, e, q⟩ =>
  obtain ⟨t, rfl⟩ := ry
  cases rx
  have hm := PySem.W.mapOf_K (prog := X.prog) (w := X.w) I.kIn hl (hk)
  exact tail_any hm.typeIs slot_dict_getitem.lookup (wpAny_getItem_of (PySem.strKind_is X.prog X.w z t) hm (PySem.W.find_K hl e) ⟨.ref f, H, I.tok _, rfl, q⟩) hs
def m8b (f : Addr) (sp : Sp) (dvs : List V) (E : XK) (tg : TE) (t : TA) : TE := fun σ H Q => tg σ H fun x H1 => x = .ref f /\ h6f sp dvs E t σ H1 Q
theorem f3p {CX : CXT} {k : Nat} {f : Addr} {fd : FuncData} {ps : List Str} {sp : Sp} {ds : List Value} {dvs : List V} {E : XK} {g e : Expr} {es : List Expr} {tg : TE} {t : TA} {pos : Pos} (F : a1s X.prog X.w X.K X.mg X.base CX k f fd ps sp) (hr : a2q k X.A) (hk : PySem.W.keepIn X.K (.ref f) = true) (hb : Binds X.K fd ps ds) (hd : Vals dvs ds) (hx : Passes CX X E)
  (hg : PE X g tg) (ha : PA X (e :: es) t) (he : starEach (e :: es) X.env = (false, eval e X.env) :: starEach es X.env := by rfl) (hpl : (backTo pos (starEach es X.env)).any (·.1) = false := by rfl)
  (hc : eval (.Call g (e :: es) [] pos) X.env = (do callWith pos (<- eval g X.env) [] (backTo pos (starEach (e :: es) X.env)) (backToKw pos (keywordEach [] X.env))) := by rfl) :
  PE X (.Call g (e :: es) [] pos) (m8b f sp dvs E tg t) := by
 intro pins s σ H Q I h
 refine Call_ (thn (hg pins s σ H _ I h) fun v s1 ⟨x, H1, I1, r1, ex, q1⟩ => ?_) hc
 subst ex
 cases r1
 refine PySem.W.callWith_K (h₀ := X.base) I1.ok.mod.kin hk (thn (ha pos pins s1 σ H1 _ I1 q1) fun us s2 ⟨vs, H2, I2, r, q⟩ => ⟨I2.kIn, ?_⟩) he hpl
 exact k3z F hr hb hd hx I2 r q
theorem SP.n2f {pins : List (Addr × Obj)} {D : Ends} {f : Flow} {s : Shared} (h : SP X.nox pins D f s) : SP X pins D f s := by
 cases f with
 | next => obtain ⟨a, b, c, d⟩ := h; exact ⟨a, b, c.d6v, d⟩
 | brk => obtain ⟨a, b, c, d⟩ := h; exact ⟨a, b, c.d6v, d⟩
 | cont => obtain ⟨a, b, c, d⟩ := h; exact ⟨a, b, c.d6v, d⟩
 | ret u => obtain ⟨v, a, b, c, d⟩ := h; exact ⟨v, a, b, c.d6v, d⟩
theorem m2e {st : Stmt} {h₀ : ExceptHandler} {hs : List ExceptHandler} {tb : TS} {pos : Pos} (hb : PS X.nox st tb) : PS X (.Try [st] (h₀ :: hs) [] [] pos) tb := by
 intro pins s σ H Dn I h
 refine wpAny_Try_except (wpAny_execs_cons (wpAny_mono (hb pins s σ H Dn (I.wish _) h) (fun f s1 q => ?_) fun e s1 z => False.elim z))
 have q' := SP.n2f q
 cases f with
 | next => exact wpAny_execs_nil (wpAny_execs_nil q')
 | ret v => exact q'
 | brk => exact q'
 | cont => exact q'
end
end L2
namespace L2
open PySem PySem.Spec PyProof.Rows
theorem k4l {c : Nat} : ∀ {a a' b b' : List Nat}, a ++ c :: b = a' ++ c :: b' -> c ∉ a -> c ∉ a' -> a = a' /\ b = b'
 | [], [], _, _, h, _, _ => by simpa using h
 | [], d :: a', _, _, h, _, h2 => by
  rw [List.nil_append, List.cons_append, List.cons.injEq] at h
  exact absurd (by rw [h.1]; exact List.mem_cons_self) h2
 | d :: a, [], _, _, h, h1, _ => by
  rw [List.nil_append, List.cons_append, List.cons.injEq] at h
  exact absurd (by rw [h.1]; exact List.mem_cons_self) h1
 | d :: a, d' :: a', _, _, h, h1, h2 => by
  rw [List.cons_append, List.cons_append, List.cons.injEq] at h
  obtain ⟨e1, e2⟩ := k4l h.2 (fun q => h1 (List.mem_cons_of_mem _ q)) (fun q => h2 (List.mem_cons_of_mem _ q))
  exact ⟨by rw [h.1, e1], e2⟩
theorem b3l (c : Nat) (p q : Str) (r : List Str) : sg (Str.join ⟨#[c]⟩ (p :: q :: r)) = sg p ++ c :: sg (Str.join ⟨#[c]⟩ (q :: r)) := by
 show sg (p ++ ⟨#[c]⟩ ++ Str.join ⟨#[c]⟩ (q :: r)) = _
 rw [a3z, a3z, List.append_assoc]
 rfl
theorem i9z {c : Nat} : ∀ {ps qs : List Str}, ps ≠ [] -> qs ≠ [] -> (∀ p ∈ ps, c ∉ sg p) -> (∀ q ∈ qs, c ∉ sg q) -> sg (Str.join ⟨#[c]⟩ ps) = sg (Str.join ⟨#[c]⟩ qs) -> ps = qs
 | [], _, h, _, _, _, _ => absurd rfl h
 | _ :: _, [], _, h, _, _, _ => absurd rfl h
 | [p], [q], _, _, _, _, e => by
  rw [c7r (show sg p = sg q from e)]
 | [p], q :: q' :: qs, _, _, fp, _, e => by
  rw [b3l] at e
  exact absurd (by rw [show sg p = _ from e]; simp) (fp p (List.mem_cons_self ..))
 | p :: p' :: ps, [q], _, _, _, fq, e => by
  rw [b3l] at e
  exact absurd (by rw [show sg q = _ from e.symm]; simp) (fq q (List.mem_cons_self ..))
 | p :: p' :: ps, q :: q' :: qs, _, _, fp, fq, e => by
  rw [b3l, b3l] at e
  obtain ⟨e1, e2⟩ := k4l e (fp p (List.mem_cons_self ..)) (fq q (List.mem_cons_self ..))
  rw [c7r e1, i9z (by simp) (by simp) (fun x hx => fp x (List.mem_cons_of_mem _ hx)) (fun x hx => fq x (List.mem_cons_of_mem _ hx)) e2]
theorem l3b (x y : Str) : c0n x y = Txt.split x y := rfl
theorem l7v (x y : Str) : Txt.split x y ≠ [] := by
 unfold Txt.split
 split
 ·simp
 ·split
  ·simp
  ·rw [StrLaws.partsBetween_eq]
   obtain ⟨p, r, e⟩ := StrLaws.partsFrom_ne x y.length 0 (Builtin.Str.occurrences x y 0 x.length (x.length + 1))
   rw [e]
   simp
theorem g1y {x : Str} {c : Nat} {ps : List Str} (hn : ps ≠ []) (hf : ∀ p ∈ ps, c ∉ sg p) (h : sg x = sg (Str.join ⟨#[c]⟩ ps)) : c0n x ⟨#[c]⟩ = ps := by
 rw [l3b]
 refine i9z (c := c) (l7v _ _) hn (fun p hp => StrLaws.split_free x c p hp) hf ?_
 rw [StrLaws.join_split, h]
end L2
namespace L2
open PySem PySem.Spec PyProof.Rows
def a3p (t t' : TE) : TE := fun σ H Q => t σ H Q \/ t' σ H Q
theorem a0o {X : Cx} {e : Expr} {t t' : TE} (h : PE X e t) (h' : PE X e t') : PE X e (a3p t t') := fun pins s σ H Q I z => z.elim (h pins s σ H Q I) (h' pins s σ H Q I)
theorem l7w : ∀ (k n : Nat), n < 10 ^ (k + 1) -> (dg n).length <= k + 1
 | 0, n, h => by
  rw [j7e (by omega)]
  exact Nat.le_refl _
 | k + 1, n, h => by
  rcases Nat.lt_or_ge n 10 with z | z
  ·rw [j7e z, List.length_singleton]
   omega
  ·have e : n = 10 * (n / 10) + n % 10 := by omega
   rw [e, h0x (by omega) (by omega), List.length_append, List.length_singleton]
   have := l7w k (n / 10) (by rw [Nat.pow_succ] at h; omega)
   omega
theorem m2f {X : Cx} {K : PySem.W.Frag} (hK : X.K = K) (hu : X.A.units + 64 < cLine) : OpR X (compareOp .Eq) (n1g K) := hK ▸ c4h hu
open PySem.Builtin.Int (intBits)
noncomputable def fW (x : Rat) : Str := Str.empty ++ Str.ofString (toString x.num) ++ Str.ofString "/" ++ Str.ofString (toString (x.den : Int))
noncomputable def cW (c : Int × Rat) : Str := Str.empty ++ Str.ofString (toString c.1) ++ Str.ofString "=" ++ fW c.2
noncomputable def nW (n : Nat) : Str := Str.ofString (toString (n : Int))
def YOk (y : Rat) : Prop := y.num.natAbs <= 1000 /\ y.den <= 1000
inductive Dt where
 | gain (y : Rat)
 | delay (n : Nat)
 | echo (y : Rat) (n t : Nat)
 | back (y : Rat) (n : Nat)
 | hall (y : Rat) (n : Nat)
 | swell (cs : List (Int × Rat))
noncomputable def Dt.kd : Dt -> Nat
 | .gain _ => 0
 | .delay _ => 1
 | .echo .. => 2
 | .back .. => 3
 | .hall .. => 4
 | .swell _ => 5
noncomputable def Dt.kind : Dt -> Str
 | .gain _ => Str.ofString "gain"
 | .delay _ => Str.ofString "delay"
 | .echo .. => Str.ofString "echo"
 | .back .. => Str.ofString "back"
 | .hall .. => Str.ofString "hall"
 | .swell _ => Str.ofString "swell"
noncomputable def Dt.vals : Dt -> List Str
 | .gain y => [fW y]
 | .delay n => [nW n]
 | .echo y n t => [fW y, nW n, nW t]
 | .back y n => [fW y, nW n]
 | .hall y n => [fW y, nW n]
 | .swell cs => [Str.join ⟨#[44]⟩ (cs.map cW)]
noncomputable def Dt.word (d : Dt) : Str := Str.join ⟨#[58]⟩ (d.kind :: d.vals)
def j6t (cs : List (Int × Rat)) : Prop := (∀ c ∈ cs, 0 <= c.1 /\ c.1 <= 100000 /\ YOk c.2) /\ (∀ (i : Nat) c d, cs[i]? = some c -> cs[i + 1]? = some d -> c.1 < d.1) /\ 1 <= cs.length /\ cs.length <= 12
noncomputable def Dt.ok : Dt -> Prop
 | .gain y => YOk y
 | .delay n => n <= 1000
 | .echo y n t => YOk y /\ 1 <= n /\ n <= 1000 /\ t <= 16
 | .back y n => YOk y /\ 1 <= n /\ n <= 1000
 | .hall y n => YOk y /\ (y.num.natAbs : Int) < y.den /\ 1 <= n /\ n <= 1000
 | .swell cs => j6t cs
theorem c0p {t : Int} {n : Nat} (h : t.natAbs < 2 ^ n) (hn : 1 <= n) : t.natAbs.log2 < n := by
 rcases Nat.eq_zero_or_pos t.natAbs with z | z
 ·rw [z]
  show Nat.log2 0 < n
  have : Nat.log2 0 = 0 := by decide
  omega
 ·rw [Nat.log2_lt (by omega)]
  exact h
theorem c1i {t : Int} {n : Nat} (h : t.natAbs < 2 ^ n) (hn : 1 <= n) : (Str.ofString (toString t)).length <= n + 1 := by
 have e : (Str.ofString (toString t)).length = (txt t).length := by rw [<- d8j, d6w]
 have := j7f t
 have := c0p h hn
 omega
theorem g0g {n : Nat} (h : n < 2 ^ 20) : (nW n).length <= 21 := c1i (t := (n : Int)) (n := 20) (by omega) (by decide)
theorem YOk.b {y : Rat} (h : YOk y) : intBits y.num <= 10 /\ intBits (y.den : Int) <= 10 := ⟨intBits_le_iff.mpr (Nat.lt_of_le_of_lt h.1 (by decide)), intBits_le_iff.mpr (Nat.lt_of_le_of_lt (show (y.den : Int).natAbs <= 1000 from h.2) (by decide))⟩
theorem d0y {x : Rat} (h1 : intBits x.num <= 10) (h2 : intBits (x.den : Int) <= 10) : (fW x).length <= 23 := by
 have a := c1i (intBits_le_iff.mp h1) (by decide)
 have b := c1i (intBits_le_iff.mp h2) (by decide)
 have e0 : Str.empty.length = 0 := rfl
 have e1 : (Str.ofString "/").length = 1 := by decide +kernel
 unfold fW
 simp only [strLen_append, e0, e1]
 omega
theorem m0p {c : Int × Rat} (h0 : c.1.natAbs < 2 ^ 20) (h1 : intBits c.2.num <= 10) (h2 : intBits (c.2.den : Int) <= 10) : (cW c).length <= 45 := by
 have a := c1i h0 (by decide)
 have b := d0y h1 h2
 have e0 : Str.empty.length = 0 := rfl
 have e1 : (Str.ofString "=").length = 1 := by decide +kernel
 unfold cW
 simp only [strLen_append, e0, e1]
 omega
theorem l7x (n : Nat) : sg (nW n) = txt (n : Int) := d6w _
theorem m2g (y : Rat) : sg (fW y) = l7p y.num (y.den : Int) := by
 unfold fW l7p
 rw [a3z, a3z, a3z, d6w, d6w]
 have e4 : sg Str.empty = [] := rfl
 have e5 : sg (Str.ofString "/") = [47] := by decide +kernel
 rw [e4, e5]
 simp
theorem m2h (c : Int × Rat) : sg (cW c) = txt c.1 ++ 61 :: sg (fW c.2) := by
 unfold cW
 rw [a3z, a3z, a3z, d6w]
 have e4 : sg Str.empty = [] := rfl
 have e5 : sg (Str.ofString "=") = [61] := by decide +kernel
 rw [e4, e5]
 simp
theorem m2i {y : Rat} (h : YOk y) : Good (sg (fW y)) y.num (y.den : Int) := by
 have dp := y.den_pos
 refine ⟨m2g y, by omega, y.reduced, ?_, ?_⟩
 ·exact l7w 8 _ (Nat.lt_of_le_of_lt h.1 (by decide))
 ·exact l7w 8 _ (Nat.lt_of_le_of_lt (show (y.den : Int).natAbs <= 1000 from h.2) (by decide))
theorem k6e {c : Nat} (h1 : c ≠ 45) (h2 : 57 < c) (y : Rat) : c ∉ sg (fW y) := by
 rw [m2g]
 unfold l7p
 intro h
 rcases List.mem_append.mp h with z | z
 ·exact f4l h1 (.inr h2) z
 ·rcases List.mem_cons.mp z with z | z
  ·omega
  ·exact f4l h1 (.inr h2) z
theorem l3c {c : Nat} (h1 : c ≠ 45) (h2 : c < 48 \/ 57 < c) (n : Nat) : c ∉ sg (nW n) := by
 rw [l7x]
 exact f4l h1 h2
theorem m2j (y : Rat) : 44 ∉ sg (fW y) := by
 rw [m2g]
 unfold l7p
 intro h
 rcases List.mem_append.mp h with z | z
 ·exact f4l (by decide) (.inl (by decide)) z
 ·rcases List.mem_cons.mp z with z | z
  ·omega
  ·exact f4l (by decide) (.inl (by decide)) z
theorem m2k (c : Int × Rat) : 44 ∉ sg (cW c) := by
 rw [m2h]
 intro h
 rcases List.mem_append.mp h with z | z
 ·exact f4l (by decide) (.inl (by decide)) z
 ·rcases List.mem_cons.mp z with z | z
  ·omega
  ·exact m2j _ z
theorem m2l (c : Int × Rat) : 58 ∉ sg (cW c) := by
 rw [m2h]
 intro h
 rcases List.mem_append.mp h with z | z
 ·exact f4l (by decide) (.inr (by decide)) z
 ·rcases List.mem_cons.mp z with z | z
  ·omega
  ·exact k6e (by decide) (by decide) _ z
theorem l3d {c k : Nat} (hk : c ≠ k) : ∀ {ps : List Str}, (∀ p ∈ ps, c ∉ sg p) -> c ∉ sg (Str.join ⟨#[k]⟩ ps)
 | [], _ => by
  show c ∉ ([] : List Nat)
  simp
 | [p], h => h p (List.mem_cons_self ..)
 | p :: q :: r, h => by
  rw [b3l]
  intro z
  rcases List.mem_append.mp z with z | z
  ·exact h p (List.mem_cons_self ..) z
  ·rcases List.mem_cons.mp z with z | z
   ·exact hk z
   ·exact l3d hk (fun x hx => h x (List.mem_cons_of_mem _ hx)) z
theorem j0a {b : Nat} : ∀ {l : List Nat}, (∀ x ∈ l, x <= b) -> l.sum <= l.length * b
 | [], _ => Nat.zero_le _
 | x :: l, h => by
  have i := j0a (l := l) fun y hy => h y (List.mem_cons_of_mem _ hy)
  have := h x (List.mem_cons_self ..)
  rw [List.sum_cons, List.length_cons, Nat.succ_mul]
  omega
theorem k4m {z : Str} {ps : List Str} {n : Nat} (h : ∀ p ∈ ps, p.length <= n) : (Str.join z ps).length <= ps.length * n + ps.length * z.length := by
 have a := StrLaws.join_length_le z ps
 have b := j0a (b := n) (l := ps.map (·.length)) fun x hx => by
  obtain ⟨y, hy, rfl⟩ := List.mem_map.mp hx
  exact h y hy
 rw [List.length_map] at b
 have c : (ps.length - 1) * z.length <= ps.length * z.length := Nat.mul_le_mul_right _ (Nat.sub_le _ _)
 omega
theorem j6t.len {cs : List (Int × Rat)} (h : j6t cs) : ∀ c ∈ cs, (cW c).length <= 45 := fun c hc => by
 obtain ⟨a, b, y⟩ := h.1 c hc
 exact m0p (by omega) y.b.1 y.b.2
theorem j6t.n0l {cs : List (Int × Rat)} (h : j6t cs) : (Str.join ⟨#[44]⟩ (cs.map cW)).length <= 600 := by
 have a := k4m (z := ⟨#[44]⟩) (ps := cs.map cW) (n := 45) fun p hp => by
  obtain ⟨c, hc, rfl⟩ := List.mem_map.mp hp
  exact h.len c hc
 rw [List.length_map, h0w] at a
 have := h.2.2.2
 omega
theorem Dt.free {d : Dt} : ∀ p ∈ d.kind :: d.vals, 58 ∉ sg p := by
 cases d <;> intro p hp <;> simp only [Dt.kind, Dt.vals, List.mem_cons, List.not_mem_nil, or_false] at hp
 case gain => rcases hp with rfl | rfl; decide +kernel; exact k6e (by decide) (by decide) _
 case delay => rcases hp with rfl | rfl; decide +kernel; exact l3c (by decide) (.inr (by decide)) _
 case echo => rcases hp with rfl | rfl | rfl | rfl; decide +kernel; exact k6e (by decide) (by decide) _; exact l3c (by decide) (.inr (by decide)) _; exact l3c (by decide) (.inr (by decide)) _
 case back => rcases hp with rfl | rfl | rfl; decide +kernel; exact k6e (by decide) (by decide) _; exact l3c (by decide) (.inr (by decide)) _
 case hall => rcases hp with rfl | rfl | rfl; decide +kernel; exact k6e (by decide) (by decide) _; exact l3c (by decide) (.inr (by decide)) _
 case swell cs =>
  rcases hp with rfl | rfl
  ·decide +kernel
  ·refine l3d (by decide) fun p hp => ?_
   obtain ⟨c, _, rfl⟩ := List.mem_map.mp hp
   exact m2l c
theorem Dt.vlen {d : Dt} (h : d.ok) : ∀ p ∈ d.kind :: d.vals, p.length <= 600 := by
 have k1 : (Str.ofString "gain").length = 4 := by decide +kernel
 have k2 : (Str.ofString "delay").length = 5 := by decide +kernel
 have k3 : (Str.ofString "echo").length = 4 := by decide +kernel
 have k4 : (Str.ofString "back").length = 4 := by decide +kernel
 have k5 : (Str.ofString "hall").length = 4 := by decide +kernel
 have k6 : (Str.ofString "swell").length = 5 := by decide +kernel
 have f : ∀ {y : Rat}, YOk y -> (fW y).length <= 600 := fun h => Nat.le_trans (d0y h.b.1 h.b.2) (by decide)
 have g : ∀ {n : Nat}, n <= 1000 -> (nW n).length <= 600 := fun h => Nat.le_trans (g0g (Nat.lt_of_le_of_lt h (by decide))) (by decide)
 cases d <;> intro p hp <;> simp only [Dt.kind, Dt.vals, List.mem_cons, List.not_mem_nil, or_false] at hp
 case gain => rcases hp with rfl | rfl; omega; exact f h
 case delay => rcases hp with rfl | rfl; omega; exact g h
 case echo => rcases hp with rfl | rfl | rfl | rfl; omega; exact f h.1; exact g h.2.2.1; exact g (Nat.le_trans h.2.2.2 (by decide))
 case back => rcases hp with rfl | rfl | rfl; omega; exact f h.1; exact g h.2.2
 case hall => rcases hp with rfl | rfl | rfl; omega; exact f h.1; exact g h.2.2.2
 case swell cs => rcases hp with rfl | rfl; omega; exact h.n0l
theorem Dt.vn {d : Dt} : d.vals.length <= 3 := by
 cases d <;> simp [Dt.vals]
theorem Dt.wlen {d : Dt} (h : d.ok) : d.word.length <= 4000 := by
 have a := k4m (z := ⟨#[58]⟩) (d.vlen h)
 have b := d.vn
 rw [List.length_cons, h0w] at a
 unfold Dt.word
 omega
theorem Dt.split (d : Dt) : c0n d.word ⟨#[58]⟩ = d.kind :: d.vals := g1y (by simp) d.free rfl
theorem i2l {cs : List (Int × Rat)} (h : 1 <= cs.length) : c0n (Str.join ⟨#[44]⟩ (cs.map cW)) ⟨#[44]⟩ = cs.map cW := g1y (by intro z; have := congrArg List.length z; rw [List.length_map, List.length_nil] at this; omega) (fun p hp => by
 obtain ⟨c, _, rfl⟩ := List.mem_map.mp hp
 exact m2k c) rfl
theorem j0b {c : Int × Rat} : c0n (cW c) ⟨#[61]⟩ = [Str.ofString (toString c.1), fW c.2] := g1y (by simp) (fun p hp => by
 rcases List.mem_cons.mp hp with rfl | hp
 ·rw [d6w]
  exact f4l (by decide) (.inr (by decide))
 ·rw [List.mem_singleton.mp hp]
  exact k6e (by decide) (by decide) _) (by rw [b3l, m2h, d6w]; rfl)
theorem k6f (z p : Str) : Str.join z [p] = p := rfl
theorem k6g : sg Str.empty = [] := rfl
theorem m8c : sg (Str.ofString "gain:") = sg (Str.ofString "gain") ++ [58] := by decide +kernel
theorem m2m : sg (Str.ofString "delay:") = sg (Str.ofString "delay") ++ [58] := by decide +kernel
theorem m8d : sg (Str.ofString "echo:") = sg (Str.ofString "echo") ++ [58] := by decide +kernel
theorem m8e : sg (Str.ofString "back:") = sg (Str.ofString "back") ++ [58] := by decide +kernel
theorem m8f : sg (Str.ofString "hall:") = sg (Str.ofString "hall") ++ [58] := by decide +kernel
theorem m2n : sg (Str.ofString "swell:") = sg (Str.ofString "swell") ++ [58] := by decide +kernel
theorem k6h : sg (Str.ofString ":") = [58] := by decide +kernel
theorem l7y : Str.ofString "," = ⟨#[44]⟩ := by decide +kernel
theorem n2g : Str.ofString ":" = ⟨#[58]⟩ := by decide +kernel
theorem n2h : Str.ofString "=" = ⟨#[61]⟩ := by decide +kernel
theorem l3e (y : Rat) : Str.empty ++ Str.ofString "gain:" ++ fW y = (Dt.gain y).word := c7r (by
 simp only [Dt.word, Dt.kind, Dt.vals, a3z, b3l, k6f, k6g, m8c, k6h, List.nil_append, List.append_assoc, List.singleton_append, List.cons_append])
theorem j7j (n : Nat) : Str.empty ++ Str.ofString "delay:" ++ nW n = (Dt.delay n).word := c7r (by
 simp only [Dt.word, Dt.kind, Dt.vals, a3z, b3l, k6f, k6g, m2m, k6h, List.nil_append, List.append_assoc, List.singleton_append, List.cons_append])
theorem l3f (y : Rat) (n t : Nat) : Str.empty ++ Str.ofString "echo:" ++ fW y ++ Str.ofString ":" ++ nW n ++ Str.ofString ":" ++ nW t = (Dt.echo y n t).word := c7r (by
 simp only [Dt.word, Dt.kind, Dt.vals, a3z, b3l, k6f, k6g, m8d, k6h, List.nil_append, List.append_assoc, List.singleton_append, List.cons_append])
theorem l3g (y : Rat) (n : Nat) : Str.empty ++ Str.ofString "back:" ++ fW y ++ Str.ofString ":" ++ nW n = (Dt.back y n).word := c7r (by
 simp only [Dt.word, Dt.kind, Dt.vals, a3z, b3l, k6f, k6g, m8e, k6h, List.nil_append, List.append_assoc, List.singleton_append, List.cons_append])
theorem l3h (y : Rat) (n : Nat) : Str.empty ++ Str.ofString "hall:" ++ fW y ++ Str.ofString ":" ++ nW n = (Dt.hall y n).word := c7r (by
 simp only [Dt.word, Dt.kind, Dt.vals, a3z, b3l, k6f, k6g, m8f, k6h, List.nil_append, List.append_assoc, List.singleton_append, List.cons_append])
theorem l7z (z : Str) (ps : List Str) : Txt.join z ps = Str.join z ps := by
 show Builtin.Str.glued _ _ = _
 rw [StrLaws.glued_eq_join]
theorem j7k (cs : List (Int × Rat)) : Str.empty ++ Str.ofString "swell:" ++ Txt.join (Str.ofString ",") (cs.map cW) = (Dt.swell cs).word := c7r (by
 rw [l7z, l7y]
 simp only [Dt.word, Dt.kind, Dt.vals, a3z, b3l, k6f, k6g, m2n, k6h, List.nil_append, List.append_assoc, List.singleton_append, List.cons_append])
end L2
namespace L2
open PySem PySem.Spec PyProof.Rows
section
variable {X : Cx}
noncomputable def n2i : V -> List V -> Hp -> VK -> Prop := fun x vs H Q => match x, vs with
 | .ref l, [.int i, y] => (match H l with
  | some (.lst xs) => 0 <= i /\ i < 1000000 /\ xs.length < sizeLine /\ All (fun v H1 => v = .non /\ a6j l H H1 /\ H1 l = some (.lst (xs.take i.toNat ++ y :: xs.drop i.toNat))) Q ⟨⟩ ⟨⟩
  | _ => False)
 | _, _ => False
theorem i0k : MtR X "list.insert" n2i := by
 intro pins s σ H x vs v us Q I rx rv h
 match x, vs, h with
 | .ref l, [.int i, y], h =>
  have h' : (match H l with
   | some (.lst xs) => 0 <= i /\ i < 1000000 /\ xs.length < sizeLine /\ All (fun v H1 => v = .non /\ a6j l H H1 /\ H1 l = some (.lst (xs.take i.toNat ++ y :: xs.drop i.toNat))) Q ⟨⟩ ⟨⟩
   | _ => False) := h
  split at h'
  ·rename_i xs hH
   obtain ⟨i0, i1, hz, q⟩ := h'
   cases rx
   obtain ⟨u, u2, rfl, ru, ru2⟩ := rv.two
   obtain ⟨t, rfl⟩ := ru
   obtain ⟨z, its, n, r, hl, e⟩ := I.m6p hH
   have hf : Builtin.List.listFitsIndex i = true := fitsIndex_both (by omega) (by omega)
   refine call_meets F.slot_list_insert ⟨_, e, rfl⟩ F.entry_list_insert (F.args_list_insert_3 _ _ _) (PySem.AutoSeq1.list_insert_list_int_val_1 l its.toArray n i t u2 (by simp [hf]) (by rw [List.size_toArray]; omega)) ⟨e, ?_⟩
   refine ⟨.non, _, I.n3u (its' := its.take i.toNat ++ u2 :: its.drop i.toNat) hH e ?_ ((r.take _).append (.cons ru2 (r.drop _))) ?_, rfl, q _ _ ⟨rfl, a6j.upd, a5l⟩⟩
   ·have hk : (if i < 0 then (i + ((its.toArray.size : Nat) : Int)).toNat else min i.toNat its.toArray.size) = min i.toNat its.length := by
     rw [if_neg (by omega), List.size_toArray]
    show (its.toArray.extract 0 (if i < 0 then (i + ((its.toArray.size : Nat) : Int)).toNat else min i.toNat its.toArray.size)).push u2 ++ its.toArray.extract (if i < 0 then (i + ((its.toArray.size : Nat) : Int)).toNat else min i.toNat its.toArray.size) = _
    rw [hk]
    apply Array.ext'
    rcases Nat.le_total i.toNat its.length with hle | hle
    ·rw [Nat.min_eq_left hle]
     simp
     exact List.take_of_length_le (by rw [List.length_drop]; omega)
    ·rw [Nat.min_eq_right hle, List.take_of_length_le hle, List.drop_of_length_le hle]
     simp
   ·rw [List.length_append, List.length_cons, List.length_take, List.length_drop]
    omega
  ·exact h'.elim
end
end L2
namespace L2
open PySem PySem.Spec PyProof.Rows PySem.W
theorem c9g (s : String) : PyData.strOk (Str.ofString s) = true := by
 rw [Str.ofString_eq_toList]
 unfold PyData.strOk
 show (List.toArray (s.toList.map Char.toNat)).all _ = true
 rw [List.all_toArray, List.all_eq_true]
 intro c hc
 obtain ⟨x, _, rfl⟩ := List.mem_map.mp hc
 rw [decide_eq_true_eq]
 have := x.valid
 unfold UInt32.isValidChar Nat.isValidChar at this
 show x.val.toNat < 1114112
 omega
theorem a7p {x y : Str} (h1 : PyData.strOk x = true) (h2 : PyData.strOk y = true) : PyData.strOk (x ++ y) = true := by
 unfold PyData.strOk at *
 show (x.cps ++ y.cps).all _ = true
 rw [Array.all_append, h1, h2]
 rfl
theorem j0c {K : PySem.W.Frag} {H : Hp} : ∀ ss : List Str, d8h K H (ss.map V.str) (kqdPs (ss.map Dat.str))
 | [] => .nil
 | n :: ns => .cons (.str n) (j0c ns)
theorem h0z {ns ms : List Str} : ns.map Dat.str = ms.map Dat.str ↔ ns = ms := by
 induction ns generalizing ms with
 | nil => cases ms <;> simp
 | cons n ns ih => cases ms <;> simp [ih]
theorem g9z {ss : List Str} (h : ∀ s ∈ ss, PyData.strOk s = true) : kqdOk 1 (.list (ss.map .str)) = true := by
 show (ss.map Dat.str).all (kqdOk 0) = true
 rw [List.all_eq_true]
 intro d hd
 obtain ⟨s, hs, rfl⟩ := List.mem_map.mp hd
 exact h s hs
theorem g0h {K : PySem.W.Frag} {H : Hp} {p : Addr} {ss : List Str} (h : SqL K H p (ss.map V.str)) : i8y K H (.ref p) (kqdP (.list (ss.map .str))) := by
 rw [kqdP]
 exact .lst h (j0c ss)
theorem l8a {K : PySem.W.Frag} {H : Hp} {p q : Addr} {ns ms : List Str} {Q : VK} (hp : SqL K H p (ns.map V.str)) (hq : SqL K H q (ms.map V.str)) (h1 : ∀ s ∈ ns, PyData.strOk s = true) (h2 : ∀ s ∈ ms, PyData.strOk s = true) (h : Q (.bl (!decide (ns = ms))) H) : m6t K (.ref p) (.ref q) H Q :=
 m0e (g0h hp) (g0h hq) (g9z h1) (g9z h2) (by decide) (by decide) (by rw [decide_eq_true_eq, Dat.list.injEq, h0z]) h
theorem l8b {K : PySem.W.Frag} {H : Hp} {p q : Addr} {ns ms : List Str} {Q : VK} (hp : SqL K H p (ns.map V.str)) (hq : SqL K H q (ms.map V.str)) (h1 : ∀ s ∈ ns, PyData.strOk s = true) (h2 : ∀ s ∈ ms, PyData.strOk s = true) (h : Q (.bl (decide (ns = ms))) H) : n0h K (.ref p) (.ref q) H Q :=
 m7f (g0h hp) (g0h hq) (g9z h1) (g9z h2) (by decide) (by decide) (by rw [decide_eq_true_eq, Dat.list.injEq, h0z]) h
theorem g0i : PyData.strOk Str.empty = true := by decide +kernel
theorem l3i (x : Rat) : PyData.strOk (fW x) = true := by
 unfold fW
 exact a7p (a7p (a7p g0i (c9g _)) (c9g _)) (c9g _)
theorem i2m {d : Dt} (h : d.kd < 4) : PyData.strOk d.word = true := by
 cases d with
 | gain y => rw [<- l3e]; exact a7p (a7p g0i (c9g _)) (l3i _)
 | delay n => rw [<- j7j]; exact a7p (a7p g0i (c9g _)) (c9g _)
 | echo y n t => rw [<- l3f]; exact a7p (a7p (a7p (a7p (a7p (a7p g0i (c9g _)) (l3i _)) (c9g _)) (c9g _)) (c9g _)) (c9g _)
 | back y n => rw [<- l3g]; exact a7p (a7p (a7p (a7p g0i (c9g _)) (l3i _)) (c9g _)) (c9g _)
 | hall y n => exact absurd h (by simp [Dt.kd])
 | swell cs => exact absurd h (by simp [Dt.kd])
end L2
namespace L2
open PySem PySem.Spec PyProof.Rows
section
variable {X : Cx}
end
section
variable {X : Cx} {scope : Scope} {x y : Str} {pins : List (Addr × Obj)} {σ : St} {elt iter cnd : Expr} {px py tpos pos : Pos} {kk : Nat} {wi : TI} {te : TE} {tc : TT}
end
end L2
namespace L2
open PySem PySem.Spec PyProof.Rows
section
variable {X : Cx} {o i e value : Expr} {pos pos' tpos : Pos} {td ty tv tk : TE}
end
end L2
set_option maxHeartbeats 4000000
namespace My
open PySem PySem.Spec PyProof.Rows L2
open PySem.Builtin.Int (intBits)
theorem m5d {P : Int -> Prop} {vs : List V} (h : match vs with | [.int x0] => P x0 | _ => False) : ∃ x0, vs = [.int x0] /\ P x0 := by
 match vs, h with
 | [.int x0], h => exact ⟨x0, rfl, h⟩
theorem j0d {P : Int -> Bool -> Prop} {vs : List V} (h : match vs with | [.int x0, .bl x1] => P x0 x1 | _ => False) : ∃ x0 x1, vs = [.int x0, .bl x1] /\ P x0 x1 := by
 match vs, h with
 | [.int x0, .bl x1], h => exact ⟨x0, x1, rfl, h⟩
theorem g6p {P : Int -> Int -> Prop} {vs : List V} (h : match vs with | [.int x0, .int x1] => P x0 x1 | _ => False) : ∃ x0 x1, vs = [.int x0, .int x1] /\ P x0 x1 := by
 match vs, h with
 | [.int x0, .int x1], h => exact ⟨x0, x1, rfl, h⟩
theorem b7i {P : Addr -> Prop} {vs : List V} (h : match vs with | [.ref x0] => P x0 | _ => False) : ∃ x0, vs = [.ref x0] /\ P x0 := by
 match vs, h with
 | [.ref x0], h => exact ⟨x0, rfl, h⟩
theorem f4i {P : Addr -> Int -> Prop} {vs : List V} (h : match vs with | [.ref x0, .int x1] => P x0 x1 | _ => False) : ∃ x0 x1, vs = [.ref x0, .int x1] /\ P x0 x1 := by
 match vs, h with
 | [.ref x0, .int x1], h => exact ⟨x0, x1, rfl, h⟩
theorem m0q {P : Addr -> Int -> Int -> Prop} {vs : List V} (h : match vs with | [.ref x0, .int x1, .int x2] => P x0 x1 x2 | _ => False) : ∃ x0 x1 x2, vs = [.ref x0, .int x1, .int x2] /\ P x0 x1 x2 := by
 match vs, h with
 | [.ref x0, .int x1, .int x2], h => exact ⟨x0, x1, x2, rfl, h⟩
theorem l3j {P : Addr -> Int -> Addr -> Int -> Prop} {vs : List V} (h : match vs with | [.ref x0, .int x1, .ref x2, .int x3] => P x0 x1 x2 x3 | _ => False) : ∃ x0 x1 x2 x3, vs = [.ref x0, .int x1, .ref x2, .int x3] /\ P x0 x1 x2 x3 := by
 match vs, h with
 | [.ref x0, .int x1, .ref x2, .int x3], h => exact ⟨x0, x1, x2, x3, rfl, h⟩
theorem c7o {P : Addr -> Addr -> Prop} {vs : List V} (h : match vs with | [.ref x0, .ref x1] => P x0 x1 | _ => False) : ∃ x0 x1, vs = [.ref x0, .ref x1] /\ P x0 x1 := by
 match vs, h with
 | [.ref x0, .ref x1], h => exact ⟨x0, x1, rfl, h⟩
theorem f4m {P : Addr -> Addr -> Int -> Prop} {vs : List V} (h : match vs with | [.ref x0, .ref x1, .int x2] => P x0 x1 x2 | _ => False) : ∃ x0 x1 x2, vs = [.ref x0, .ref x1, .int x2] /\ P x0 x1 x2 := by
 match vs, h with
 | [.ref x0, .ref x1, .int x2], h => exact ⟨x0, x1, x2, rfl, h⟩
theorem l3k {P : Addr -> Addr -> Int -> Int -> Prop} {vs : List V} (h : match vs with | [.ref x0, .ref x1, .int x2, .int x3] => P x0 x1 x2 x3 | _ => False) : ∃ x0 x1 x2 x3, vs = [.ref x0, .ref x1, .int x2, .int x3] /\ P x0 x1 x2 x3 := by
 match vs, h with
 | [.ref x0, .ref x1, .int x2, .int x3], h => exact ⟨x0, x1, x2, x3, rfl, h⟩
theorem c9h {P : Addr -> Addr -> Addr -> Int -> Prop} {vs : List V} (h : match vs with | [.ref x0, .ref x1, .ref x2, .int x3] => P x0 x1 x2 x3 | _ => False) : ∃ x0 x1 x2 x3, vs = [.ref x0, .ref x1, .ref x2, .int x3] /\ P x0 x1 x2 x3 := by
 match vs, h with
 | [.ref x0, .ref x1, .ref x2, .int x3], h => exact ⟨x0, x1, x2, x3, rfl, h⟩
theorem k4n {P : Str -> Prop} {vs : List V} (h : match vs with | [.str x0] => P x0 | _ => False) : ∃ x0, vs = [.str x0] /\ P x0 := by
 match vs, h with
 | [.str x0], h => exact ⟨x0, rfl, h⟩
theorem m0r {P : Str -> Int -> Int -> Prop} {vs : List V} (h : match vs with | [.str x0, .int x1, .int x2] => P x0 x1 x2 | _ => False) : ∃ x0 x1 x2, vs = [.str x0, .int x1, .int x2] /\ P x0 x1 x2 := by
 match vs, h with
 | [.str x0, .int x1, .int x2], h => exact ⟨x0, x1, x2, rfl, h⟩
noncomputable def top (i : Nat) : Stmt := PySem.Challenge.pw_mixbench_k41_chain_by_its_parts.main.body.getD i (.Pass ⟨0, 0, 0, 0⟩)
noncomputable abbrev c3j : Stmt := (top 9)
noncomputable abbrev b4k : Stmt := (top 10)
noncomputable abbrev c3k : Stmt := (top 11)
noncomputable abbrev d0z : Stmt := (top 14)
noncomputable abbrev c3l : Stmt := (top 15)
noncomputable abbrev c3m : Stmt := (top 16)
noncomputable abbrev i0l : Stmt := (top 17)
noncomputable abbrev g1z : Stmt := (top 18)
noncomputable abbrev d1g : Stmt := (top 19)
noncomputable abbrev c3n : Stmt := (top 20)
noncomputable abbrev a7r : Stmt := (top 21)
noncomputable abbrev a7s : Stmt := (top 22)
noncomputable abbrev b0t : Stmt := (top 24)
noncomputable abbrev b3r : Stmt := (top 25)
noncomputable abbrev c4j : Stmt := (top 27)
noncomputable abbrev d1h : Stmt := (top 28)
noncomputable abbrev b4l : Stmt := (inClass (top 29) 0)
noncomputable abbrev b4m : Stmt := (inClass (top 29) 1)
noncomputable abbrev b7l : Stmt := (inClass (top 30) 0)
noncomputable abbrev b4n : Stmt := (inClass (top 30) 1)
noncomputable abbrev b0j : Stmt := (inClass (top 30) 2)
noncomputable abbrev b7m : Stmt := (inClass (top 30) 4)
noncomputable abbrev b4o : Stmt := (inClass (top 31) 0)
noncomputable abbrev a7t : Stmt := (inClass (top 31) 1)
noncomputable abbrev b4p : Stmt := (inClass (top 31) 3)
noncomputable abbrev b7n : Stmt := (top 33)
noncomputable abbrev a7u : Stmt := (top 34)
noncomputable abbrev b3s : Stmt := (inClass (top 35) 0)
noncomputable abbrev b4q : Stmt := (inClass (top 35) 1)
noncomputable abbrev b0k : Stmt := (inClass (top 35) 2)
noncomputable abbrev b4r : Stmt := (inClass (top 35) 3)
noncomputable abbrev b7o : Stmt := (inClass (top 35) 5)
noncomputable abbrev b7p : Stmt := (inClass (top 36) 0)
noncomputable abbrev b4s : Stmt := (inClass (top 36) 1)
noncomputable abbrev b0l : Stmt := (inClass (top 36) 2)
noncomputable abbrev b7q : Stmt := (inClass (top 36) 5)
noncomputable abbrev b7r : Stmt := (inClass (top 37) 0)
noncomputable abbrev b0m : Stmt := (inClass (top 37) 1)
noncomputable abbrev b7s : Stmt := (inClass (top 37) 4)
noncomputable abbrev a7v : Stmt := (top 39)
noncomputable abbrev b7t : Stmt := (top 41)
noncomputable abbrev i0m : Stmt := (top 42)
noncomputable abbrev b2g : Stmt := (top 43)
noncomputable abbrev a6q : Stmt := (inClass (top 44) 0)
noncomputable abbrev b2h : Stmt := (inClass (top 44) 1)
noncomputable abbrev b2j : Stmt := (inClass (top 44) 2)
noncomputable abbrev a7w : Stmt := (inClass (top 44) 3)
noncomputable abbrev a7y : Stmt := (inClass (top 44) 4)
noncomputable abbrev a5w : Stmt := (inClass (top 44) 5)
noncomputable abbrev b0u : Stmt := (inClass (top 44) 8)
noncomputable abbrev b7u : Stmt := (top 51)
noncomputable abbrev b2k : Stmt := (top 52)
noncomputable abbrev b7v : Stmt := (top 53)
noncomputable abbrev b2l : Stmt := (top 54)
noncomputable abbrev d1i : Stmt := (top 55)
noncomputable abbrev c3o : Stmt := (top 56)
noncomputable abbrev d1j : Stmt := (top 57)
noncomputable abbrev d1k : Stmt := (top 58)
noncomputable abbrev d1l : Stmt := (top 59)
noncomputable abbrev b2m : Stmt := (top 60)
noncomputable abbrev b7w : Stmt := (top 61)
noncomputable abbrev d1m : Stmt := (top 63)
noncomputable abbrev b7y : Stmt := (top 66)
noncomputable abbrev b0v : Stmt := (inClass (top 67) 0)
noncomputable abbrev a7z : Stmt := (inClass (top 67) 1)
noncomputable abbrev b2n : Stmt := (inClass (top 67) 2)
noncomputable abbrev a8z : Stmt := (inClass (top 67) 5)
noncomputable abbrev b2o : Stmt := (top 69)
noncomputable abbrev b7z : Stmt := (top 70)
noncomputable abbrev b2p : Stmt := (top 71)
noncomputable abbrev c3p : Stmt := (top 72)
noncomputable abbrev b4t : Stmt := (top 73)
noncomputable abbrev b8g : Stmt := (top 74)
noncomputable abbrev c3q : Stmt := (top 75)
noncomputable abbrev c3r : Stmt := (top 76)
noncomputable abbrev c3s : Stmt := (top 77)
noncomputable abbrev d1n : Stmt := (top 78)
noncomputable abbrev a6m : Stmt := (top 79)
noncomputable abbrev b2q : Stmt := (top 80)
noncomputable abbrev a8o : Stmt := (top 81)
noncomputable abbrev c3t : Stmt := (top 82)
noncomputable abbrev j0e : Stmt := (top 83)
theorem j7l : a0y ["value"] ["value"] (a0h c3j) := ⟨rfl, rfl, rfl, by decide +kernel, rfl, by decide +kernel, by decide +kernel⟩
theorem g0j : a0y ["text", "sign"] ["text"] (a0h b4k) := ⟨rfl, rfl, rfl, by decide +kernel, rfl, by decide +kernel, by decide +kernel⟩
theorem j7m : a0y ["text"] ["text"] (a0h c3k) := ⟨rfl, rfl, rfl, by decide +kernel, rfl, by decide +kernel, by decide +kernel⟩
theorem c3u : a0y ["one", "other", "left", "right", "rest"] ["one", "other"] (a0h d0z) := ⟨rfl, rfl, rfl, by decide +kernel, rfl, by decide +kernel, by decide +kernel⟩
theorem j7n : a0y ["one", "other"] ["one", "other"] (a0h c3l) := ⟨rfl, rfl, rfl, by decide +kernel, rfl, by decide +kernel, by decide +kernel⟩
theorem f5o : a0y ["top", "bottom", "by"] ["top", "bottom"] (a0h c3m) := ⟨rfl, rfl, rfl, by decide +kernel, rfl, by decide +kernel, by decide +kernel⟩
theorem m2o : a0y ["one", "other"] ["one", "other"] (a0h i0l) := ⟨rfl, rfl, rfl, by decide +kernel, rfl, by decide +kernel, by decide +kernel⟩
theorem l8c : a0y ["one", "other"] ["one", "other"] (a0h g1z) := ⟨rfl, rfl, rfl, by decide +kernel, rfl, by decide +kernel, by decide +kernel⟩
theorem k6i : a0y ["one"] ["one"] (a0h d1g) := ⟨rfl, rfl, rfl, by decide +kernel, rfl, by decide +kernel, by decide +kernel⟩
theorem j7o : a0y ["one", "other"] ["one", "other"] (a0h c3n) := ⟨rfl, rfl, rfl, by decide +kernel, rfl, by decide +kernel, by decide +kernel⟩
theorem a6n : a0y ["one", "top", "bottom"] ["one"] (a0h a7r) := ⟨rfl, rfl, rfl, by decide +kernel, rfl, by decide +kernel, by decide +kernel⟩
theorem b0g : a0y ["text", "halves", "top", "number", "one"] ["text"] (a0h a7s) := ⟨rfl, rfl, rfl, by decide +kernel, rfl, by decide +kernel, by decide +kernel⟩
theorem d2n : a0y ["one", "other", "shared", "both"] ["one", "other"] (a0h b0t) := ⟨rfl, rfl, rfl, by decide +kernel, rfl, by decide +kernel, by decide +kernel⟩
theorem j0f : a0y ["row", "by"] ["row", "by"] (a0h b3r) := ⟨rfl, rfl, rfl, by decide +kernel, rfl, by decide +kernel, by decide +kernel⟩
theorem k6j : a0y ["known", "start", "many"] ["known", "start", "many"] (a0h c4j) := ⟨rfl, rfl, rfl, by decide +kernel, rfl, by decide +kernel, by decide +kernel⟩
theorem k6k : a0y ["known", "many"] ["known", "many"] (a0h d1h) := ⟨rfl, rfl, rfl, by decide +kernel, rfl, by decide +kernel, by decide +kernel⟩
theorem i2n : a0y ["self"] ["self"] (a0h b4l) := ⟨rfl, rfl, rfl, by decide +kernel, rfl, by decide +kernel, by decide +kernel⟩
theorem i2o : a0y ["self"] ["self"] (a0h b4m) := ⟨rfl, rfl, rfl, by decide +kernel, rfl, by decide +kernel, by decide +kernel⟩
theorem j0g : a0y ["self", "gain"] ["self", "gain"] (a0h b7l) := ⟨rfl, rfl, rfl, by decide +kernel, rfl, by decide +kernel, by decide +kernel⟩
theorem i2p : a0y ["self"] ["self"] (a0h b4n) := ⟨rfl, rfl, rfl, by decide +kernel, rfl, by decide +kernel, by decide +kernel⟩
theorem h1a : a0y ["self", "state", "tops", "bottom"] ["self", "state", "tops", "bottom"] (a0h b0j) := ⟨rfl, rfl, rfl, by decide +kernel, rfl, by decide +kernel, by decide +kernel⟩
theorem g5l : a0y ["self", "gain"] ["self"] (a0h b7m) := ⟨rfl, rfl, rfl, by decide +kernel, rfl, by decide +kernel, by decide +kernel⟩
theorem i2q : a0y ["self", "many"] ["self", "many"] (a0h b4o) := ⟨rfl, rfl, rfl, by decide +kernel, rfl, by decide +kernel, by decide +kernel⟩
theorem d6y : a0y ["self", "state", "tops", "bottom", "known"] ["self", "state", "tops", "bottom"] (a0h a7t) := ⟨rfl, rfl, rfl, by decide +kernel, rfl, by decide +kernel, by decide +kernel⟩
theorem g0k : a0y ["self", "many"] ["self"] (a0h b4p) := ⟨rfl, rfl, rfl, by decide +kernel, rfl, by decide +kernel, by decide +kernel⟩
theorem d8k : a0y ["number", "most", "powers", "turn"] ["number", "most"] (a0h b7n) := ⟨rfl, rfl, rfl, by decide +kernel, rfl, by decide +kernel, by decide +kernel⟩
theorem g6q : a0y ["top", "bottom"] ["top", "bottom"] (a0h a7u) := ⟨rfl, rfl, rfl, by decide +kernel, rfl, by decide +kernel, by decide +kernel⟩
theorem d8l : a0y ["self", "gain", "many", "turns", "tops", "bottoms"] ["self", "gain", "many", "turns"] (a0h b3s) := ⟨rfl, rfl, rfl, by decide +kernel, rfl, by decide +kernel, by decide +kernel⟩
theorem i2r : a0y ["self"] ["self"] (a0h b4q) := ⟨rfl, rfl, rfl, by decide +kernel, rfl, by decide +kernel, by decide +kernel⟩
theorem a8g : a0y ["self", "state", "tops", "bottom", "known", "out", "turn", "heard"] ["self", "state", "tops", "bottom"] (a0h b0k) := ⟨rfl, rfl, rfl, by decide +kernel, rfl, by decide +kernel, by decide +kernel⟩
theorem i2s : a0y ["self"] ["self"] (a0h b4r) := ⟨rfl, rfl, rfl, by decide +kernel, rfl, by decide +kernel, by decide +kernel⟩
theorem c7s : a0y ["self", "gain", "many", "turns"] ["self"] (a0h b7o) := ⟨rfl, rfl, rfl, by decide +kernel, rfl, by decide +kernel, by decide +kernel⟩
theorem j0h : a0y ["self", "gain", "many"] ["self", "gain", "many"] (a0h b7p) := ⟨rfl, rfl, rfl, by decide +kernel, rfl, by decide +kernel, by decide +kernel⟩
theorem i2t : a0y ["self"] ["self"] (a0h b4s) := ⟨rfl, rfl, rfl, by decide +kernel, rfl, by decide +kernel, by decide +kernel⟩
theorem b5s : a0y ["self", "state", "tops", "bottom", "known", "heard", "out"] ["self", "state", "tops", "bottom"] (a0h b0l) := ⟨rfl, rfl, rfl, by decide +kernel, rfl, by decide +kernel, by decide +kernel⟩
theorem d8m : a0y ["self", "gain", "many"] ["self"] (a0h b7q) := ⟨rfl, rfl, rfl, by decide +kernel, rfl, by decide +kernel, by decide +kernel⟩
theorem j0i : a0y ["self", "gain", "many"] ["self", "gain", "many"] (a0h b7r) := ⟨rfl, rfl, rfl, by decide +kernel, rfl, by decide +kernel, by decide +kernel⟩
theorem b0w : a0y ["self", "state", "tops", "bottom", "known", "top", "heard", "whole"] ["self", "state", "tops", "bottom"] (a0h b0m) := ⟨rfl, rfl, rfl, by decide +kernel, rfl, by decide +kernel, by decide +kernel⟩
theorem d8n : a0y ["self", "gain", "many"] ["self"] (a0h b7s) := ⟨rfl, rfl, rfl, by decide +kernel, rfl, by decide +kernel, by decide +kernel⟩
theorem b3m : a0y ["bottoms", "shared", "bottom"] ["bottoms"] (a0h a7v) := ⟨rfl, rfl, rfl, by decide +kernel, rfl, by decide +kernel, by decide +kernel⟩
theorem c0q : a0y ["corners", "slopes", "left", "right", "rise"] ["corners"] (a0h b7t) := ⟨rfl, rfl, rfl, by decide +kernel, rfl, by decide +kernel, by decide +kernel⟩
theorem m2p : a0y ["one", "bottom"] ["one", "bottom"] (a0h i0m) := ⟨rfl, rfl, rfl, by decide +kernel, rfl, by decide +kernel, by decide +kernel⟩
theorem c9i : a0y ["corner", "at", "gain"] ["corner"] (a0h b2g) := ⟨rfl, rfl, rfl, by decide +kernel, rfl, by decide +kernel, by decide +kernel⟩
theorem g0l : a0y ["self", "corners", "slopes"] ["self", "corners"] (a0h a6q) := ⟨rfl, rfl, rfl, by decide +kernel, rfl, by decide +kernel, by decide +kernel⟩
theorem h6j : a0y ["self"] ["self"] (a0h b2h) := ⟨rfl, rfl, rfl, by decide +kernel, rfl, by decide +kernel, by decide +kernel⟩
theorem h6k : a0y ["self"] ["self"] (a0h b2j) := ⟨rfl, rfl, rfl, by decide +kernel, rfl, by decide +kernel, by decide +kernel⟩
theorem c1j : a0y ["self", "at", "found"] ["self", "at"] (a0h a7w) := ⟨rfl, rfl, rfl, by decide +kernel, rfl, by decide +kernel, by decide +kernel⟩
theorem d6z : a0y ["self", "at", "line"] ["self", "at"] (a0h a7y) := ⟨rfl, rfl, rfl, by decide +kernel, rfl, by decide +kernel, by decide +kernel⟩
theorem d7g : a0y ["self", "state", "tops", "bottom", "out"] ["self", "state", "tops", "bottom"] (a0h a5w) := ⟨rfl, rfl, rfl, by decide +kernel, rfl, by decide +kernel, by decide +kernel⟩
theorem g0m : a0y ["self", "corners"] ["self"] (a0h b0u) := ⟨rfl, rfl, rfl, by decide +kernel, rfl, by decide +kernel, by decide +kernel⟩
theorem g5m : a0y ["text", "gain"] ["text"] (a0h b7u) := ⟨rfl, rfl, rfl, by decide +kernel, rfl, by decide +kernel, by decide +kernel⟩
theorem f4n : a0y ["text", "least", "most", "number"] ["text", "least", "most"] (a0h b2k) := ⟨rfl, rfl, rfl, by decide +kernel, rfl, by decide +kernel, by decide +kernel⟩
theorem j0j : a0y ["text"] ["text"] (a0h b7v) := ⟨rfl, rfl, rfl, by decide +kernel, rfl, by decide +kernel, by decide +kernel⟩
theorem h6l : a0y ["values", "count"] ["values", "count"] (a0h b2l) := ⟨rfl, rfl, rfl, by decide +kernel, rfl, by decide +kernel, by decide +kernel⟩
theorem k6l : a0y ["values"] ["values"] (a0h d1i) := ⟨rfl, rfl, rfl, by decide +kernel, rfl, by decide +kernel, by decide +kernel⟩
theorem j7p : a0y ["values"] ["values"] (a0h c3o) := ⟨rfl, rfl, rfl, by decide +kernel, rfl, by decide +kernel, by decide +kernel⟩
theorem k6m : a0y ["values"] ["values"] (a0h d1j) := ⟨rfl, rfl, rfl, by decide +kernel, rfl, by decide +kernel, by decide +kernel⟩
theorem k6n : a0y ["values"] ["values"] (a0h d1k) := ⟨rfl, rfl, rfl, by decide +kernel, rfl, by decide +kernel, by decide +kernel⟩
theorem i0n : a0y ["values", "gain"] ["values"] (a0h d1l) := ⟨rfl, rfl, rfl, by decide +kernel, rfl, by decide +kernel, by decide +kernel⟩
theorem f4o : a0y ["text", "halves"] ["text"] (a0h b2m) := ⟨rfl, rfl, rfl, by decide +kernel, rfl, by decide +kernel, by decide +kernel⟩
theorem d2o : a0y ["values", "corners", "left", "right"] ["values"] (a0h b7w) := ⟨rfl, rfl, rfl, by decide +kernel, rfl, by decide +kernel, by decide +kernel⟩
theorem i0o : a0y ["word", "values"] ["word"] (a0h d1m) := ⟨rfl, rfl, rfl, by decide +kernel, rfl, by decide +kernel, by decide +kernel⟩
theorem j7q : a0y ["words"] ["words"] (a0h b7y) := ⟨rfl, rfl, rfl, by decide +kernel, rfl, by decide +kernel, by decide +kernel⟩
theorem i2u : a0y ["self", "words"] ["self", "words"] (a0h b0v) := ⟨rfl, rfl, rfl, by decide +kernel, rfl, by decide +kernel, by decide +kernel⟩
theorem a5h : a0y ["self", "tops", "bottom", "row", "states", "part", "state", "told"] ["self", "tops", "bottom"] (a0h a7z) := ⟨rfl, rfl, rfl, by decide +kernel, rfl, by decide +kernel, by decide +kernel⟩
theorem b9l : a0y ["self", "product", "part"] ["self"] (a0h b2n) := ⟨rfl, rfl, rfl, by decide +kernel, rfl, by decide +kernel, by decide +kernel⟩
theorem h6m : a0y ["self"] ["self"] (a0h a8z) := ⟨rfl, rfl, rfl, by decide +kernel, rfl, by decide +kernel, by decide +kernel⟩
theorem h6n : a0y ["_law_script", "_law_k"] ["_law_script", "_law_k"] (a0h b2o) := ⟨rfl, rfl, rfl, by decide +kernel, rfl, by decide +kernel, by decide +kernel⟩
theorem j0k : a0y ["_law_found"] ["_law_found"] (a0h b7z) := ⟨rfl, rfl, rfl, by decide +kernel, rfl, by decide +kernel, by decide +kernel⟩
theorem b0n : a0y ["_law_one", "_law_other", "_law_rest"] ["_law_one", "_law_other"] (a0h b2p) := ⟨rfl, rfl, rfl, by decide +kernel, rfl, by decide +kernel, by decide +kernel⟩
theorem b8h : a0y ["_law_mixed", "_law_great", "_law_top", "_law_bottom", "_law_by"] ["_law_mixed", "_law_great"] (a0h c3p) := ⟨rfl, rfl, rfl, by decide +kernel, rfl, by decide +kernel, by decide +kernel⟩
theorem b5t : a0y ["_law_mixed", "_law_great", "_law_bottom", "_law_top", "_law_by"] ["_law_mixed", "_law_great"] (a0h b4t) := ⟨rfl, rfl, rfl, by decide +kernel, rfl, by decide +kernel, by decide +kernel⟩
theorem c0r : a0y ["_law_mixed", "_law_great", "_law_corners", "_law_at", "_law_k"] ["_law_mixed", "_law_great"] (a0h b8g) := ⟨rfl, rfl, rfl, by decide +kernel, rfl, by decide +kernel, by decide +kernel⟩
theorem c4k : a0y ["_law_cell", "_law_great", "_law_mixed", "_law_many", "_law_pick"] ["_law_cell", "_law_great"] (a0h c3q) := ⟨rfl, rfl, rfl, by decide +kernel, rfl, by decide +kernel, by decide +kernel⟩
theorem j7r : a0y ["_law_cell"] ["_law_cell"] (a0h c3r) := ⟨rfl, rfl, rfl, by decide +kernel, rfl, by decide +kernel, by decide +kernel⟩
theorem b8i : a0y ["_law_row", "_law_cells", "_law_blocks", "_law_at", "_law_cell", "_law_many"] ["_law_row", "_law_cells"] (a0h c3s) := ⟨rfl, rfl, rfl, by decide +kernel, rfl, by decide +kernel, by decide +kernel⟩
theorem c3v : a0y ["_law_words", "_law_tops", "_law_bottom", "_law_word_here", "_law_part", "_law_state"] ["_law_words", "_law_tops", "_law_bottom"] (a0h d1n) := ⟨rfl, rfl, rfl, by decide +kernel, rfl, by decide +kernel, by decide +kernel⟩
theorem a5t : a0y ["_law_chain", "_law_words", "_law_told", "_law_product", "_law_word_here", "_law_grain"] ["_law_chain", "_law_words"] (a0h a6m) := ⟨rfl, rfl, rfl, by decide +kernel, rfl, by decide +kernel, by decide +kernel⟩
theorem f4p : a0y ["_law_told", "_law_block", "_law_top"] ["_law_told", "_law_block"] (a0h b2q) := ⟨rfl, rfl, rfl, by decide +kernel, rfl, by decide +kernel, by decide +kernel⟩
theorem b2r : a0y ["_law_chain", "_law_blocks", "_law_bottom", "_law_joined_here", "_law_block", "_law_handed", "_law_told"] ["_law_chain", "_law_blocks", "_law_bottom"] (a0h a8o) := ⟨rfl, rfl, rfl, by decide +kernel, rfl, by decide +kernel, by decide +kernel⟩
theorem h1b : a0y ["_law_joined_here", "_law_due_here", "_law_k"] ["_law_joined_here", "_law_due_here"] (a0h c3t) := ⟨rfl, rfl, rfl, by decide +kernel, rfl, by decide +kernel, by decide +kernel⟩
theorem d7h : a0y ["_law_script", "_law_head", "_law_many", "_law_words", "_law_row", "_law_bottom", "_law_blocks", "_law_given_words", "_law_one", "_law_other", "_law_due_here"] ["_law_script"] (a0h j0e) := ⟨rfl, rfl, rfl, by decide +kernel, rfl, by decide +kernel, by decide +kernel⟩
set_option genInjectivity false in
structure Ad where
 b8j : Addr
 f5p : FuncData
 b0y : Addr
 d2p : FuncData
 b8k : Addr
 f5q : FuncData
 c0s : Addr
 f3q : FuncData
 b8l : Addr
 f5r : FuncData
 b8m : Addr
 f5s : FuncData
 h1c : Addr
 j7s : FuncData
 f5t : Addr
 i2v : FuncData
 c4l : Addr
 g2a : FuncData
 b8n : Addr
 f5u : FuncData
 a4o : Addr
 b3n : FuncData
 a5y : Addr
 c1k : FuncData
 b0z : Addr
 d2q : FuncData
 b3t : Addr
 d8o : FuncData
 c4m : Addr
 g2b : FuncData
 c4n : Addr
 g2c : FuncData
 a3i : Addr
 d2r : FuncData
 a2h : Addr
 d2s : FuncData
 b1g : Addr
 d8p : FuncData
 a6r : Addr
 c2h : FuncData
 a4i : Addr
 b5u : FuncData
 b1h : Addr
 d8q : FuncData
 a8p : Addr
 d2t : FuncData
 a3s : Addr
 b3o : FuncData
 a8q : Addr
 d2u : FuncData
 b3u : Addr
 d8r : FuncData
 a5z : Addr
 c1l : FuncData
 b1i : Addr
 d8s : FuncData
 a6s : Addr
 c2i : FuncData
 a4j : Addr
 b5v : FuncData
 a8r : Addr
 d2v : FuncData
 b1j : Addr
 d8t : FuncData
 b1k : Addr
 d8u : FuncData
 a6t : Addr
 c2j : FuncData
 a4k : Addr
 b5w : FuncData
 b1l : Addr
 d8v : FuncData
 b1m : Addr
 d8w : FuncData
 a4l : Addr
 b5y : FuncData
 b1n : Addr
 d8y : FuncData
 a6g : Addr
 c1m : FuncData
 b3v : Addr
 d8z : FuncData
 h1e : Addr
 j7t : FuncData
 a9g : Addr
 c9j : FuncData
 a8s : Addr
 d2w : FuncData
 a5o : Addr
 b9m : FuncData
 a6u : Addr
 c9k : FuncData
 a4p : Addr
 c1n : FuncData
 a4q : Addr
 c1o : FuncData
 a3t : Addr
 b3p : FuncData
 a8t : Addr
 d2y : FuncData
 b3w : Addr
 d9g : FuncData
 a9h : Addr
 c9l : FuncData
 b3y : Addr
 d9h : FuncData
 a9i : Addr
 c9m : FuncData
 b5z : Addr
 g2d : FuncData
 b2s : Addr
 f5v : FuncData
 b6g : Addr
 g2e : FuncData
 b6h : Addr
 g2f : FuncData
 b6i : Addr
 g2g : FuncData
 a9j : Addr
 c9n : FuncData
 b2t : Addr
 f5w : FuncData
 c4o : Addr
 g2h : FuncData
 b8o : Addr
 f5y : FuncData
 a8u : Addr
 d2z : FuncData
 a4r : Addr
 c1p : FuncData
 a6v : Addr
 c9o : FuncData
 a6w : Addr
 c9p : FuncData
 a9k : Addr
 c9q : FuncData
 b3z : Addr
 d9i : FuncData
 a9l : Addr
 c9r : FuncData
 b8p : Addr
 f5z : FuncData
 b1o : Addr
 d3g : FuncData
 b4g : Addr
 d9j : FuncData
 b8q : Addr
 f6g : FuncData
 b8r : Addr
 f6h : FuncData
 b8s : Addr
 f6i : FuncData
 c4p : Addr
 g2i : FuncData
 a5i : Addr
 b8t : FuncData
 a9m : Addr
 c9s : FuncData
 b1p : Addr
 d3h : FuncData
 b8u : Addr
 f6j : FuncData
 j7u : Addr
 l3l : FuncData
 d7i : Addr
 a5k : Addr
 a3m : Addr
 a3j : Addr
 a4s : Addr
 a4y : Addr
 a2n : Addr
 a5p : Addr
 j0l : Value
 c0t : Value
 c0u : Value
 h1f : Value
 h1g : Value
 g5n : Value
 j0m : Value
 f4q : Value
 g5o : Value
 a2s : Addr
 wd : World
structure Tx (K : PySem.W.Frag) (mg : Str -> Option Value) (A : Ad) : Prop where
 c3w : Fun K "is_whole" "is_whole" c3j A.b8j A.f5p
 f3r : Binds K A.f5p ["value"] []
 i0p : mg "is_whole" = some (.ref A.b8j)
 b4u : Fun K "is_figures" "is_figures" b4k A.b0y A.d2p
 c7t : Binds K A.d2p ["text"] []
 g5p : mg "is_figures" = some (.ref A.b0y)
 d1o : Fun K "whole_of" "whole_of" c3k A.b8k A.f5q
 g2j : Binds K A.f5q ["text"] []
 k6o : mg "whole_of" = some (.ref A.b8k)
 d1p : Fun K "divisor" "divisor" d0z A.c0s A.f3q
 g0n : Binds K A.f3q ["one", "other"] []
 j0n : mg "divisor" = some (.ref A.c0s)
 d1q : Fun K "multiple" "multiple" c3l A.b8l A.f5r
 g2k : Binds K A.f5r ["one", "other"] []
 k6p : mg "multiple" = some (.ref A.b8l)
 b8v : Fun K "fraction" "fraction" c3m A.b8m A.f5s
 d1r : Binds K A.f5s ["top", "bottom"] []
 g2l : mg "fraction" = some (.ref A.b8m)
 j0o : Fun K "plus" "plus" i0l A.h1c A.j7s
 l3m : Binds K A.j7s ["one", "other"] []
 m8g : mg "plus" = some (.ref A.h1c)
 g2m : Fun K "times" "times" g1z A.f5t A.i2v
 i2w : Binds K A.i2v ["one", "other"] []
 l3n : mg "times" = some (.ref A.f5t)
 d9k : Fun K "size_of" "size_of" d1g A.c4l A.g2a
 h1h : Binds K A.g2a ["one"] []
 l3p : mg "size_of" = some (.ref A.c4l)
 d1s : Fun K "is_under" "is_under" c3n A.b8n A.f5u
 g2n : Binds K A.f5u ["one", "other"] []
 k6q : mg "is_under" = some (.ref A.b8n)
 a2z : Fun K "fraction_text" "fraction_text" a7r A.a4o A.b3n
 a4t : Binds K A.b3n ["one"] []
 a8h : mg "fraction_text" = some (.ref A.a4o)
 b1q : Fun K "read_fraction" "read_fraction" a7s A.a5y A.c1k
 c4q : Binds K A.c1k ["text"] []
 h1i : mg "read_fraction" = some (.ref A.a5y)
 b4v : Fun K "added_rows" "added_rows" b0t A.b0z A.d2q
 c7u : Binds K A.d2q ["one", "other"] []
 g5q : mg "added_rows" = some (.ref A.b0z)
 b1r : Fun K "times_row" "times_row" b3r A.b3t A.d8o
 b8w : Binds K A.d8o ["row", "by"] []
 d3i : mg "times_row" = some (.ref A.b3t)
 c4r : Fun K "delayed" "delayed" c4j A.c4m A.g2b
 d9l : Binds K A.g2b ["known", "start", "many"] []
 h1j : mg "delayed" = some (.ref A.c4m)
 c0v : Fun K "last_of" "last_of" d1h A.c4n A.g2c
 d1t : Binds K A.g2c ["known", "many"] []
 g0o : mg "last_of" = some (.ref A.c4n)
 c7v : Fun K "grain" "Part.grain" b4l A.a3i A.d2r
 a5r : Binds K A.d2r ["self"] []
 c7w : Fun K "fresh" "Part.fresh" b4m A.a2h A.d2s
 a0z : Binds K A.d2s ["self"] []
 d3j : Fun K "__init__" "Gain.__init__" b7l A.b1g A.d8p
 f6k : Binds K A.d8p ["self", "gain"] []
 c7y : Fun K "grain" "Gain.grain" b4n A.a6r A.c2h
 b4w : Binds K A.c2h ["self"] []
 b9n : Fun K "through" "Gain.through" b0j A.a4i A.b5u
 b9o : Binds K A.b5u ["self", "state", "tops", "bottom"] []
 d3k : Fun K "word" "Gain.word" b7m A.b1h A.d8q
 f6l : Binds K A.d8q ["self"] []
 c7z : Fun K "__init__" "Delay.__init__" b4o A.a8p A.d2t
 d9m : Binds K A.d2t ["self", "many"] []
 b6j : Fun K "through" "Delay.through" a7t A.a3s A.b3o
 b6k : Binds K A.b3o ["self", "state", "tops", "bottom"] []
 c8g : Fun K "word" "Delay.word" b4p A.a8q A.d2u
 d9n : Binds K A.d2u ["self"] []
 b8y : Fun K "powers_of" "powers_of" b7n A.b3u A.d8r
 d3l : Binds K A.d8r ["number", "most"] []
 h1l : mg "powers_of" = some (.ref A.b3u)
 b1s : Fun K "toward_nought" "toward_nought" a7u A.a5z A.c1l
 c4s : Binds K A.c1l ["top", "bottom"] []
 h1n : mg "toward_nought" = some (.ref A.a5z)
 d3m : Fun K "__init__" "Echo.__init__" b3s A.b1i A.d8s
 f6m : Binds K A.d8s ["self", "gain", "many", "turns"] []
 c8h : Fun K "grain" "Echo.grain" b4q A.a6s A.c2i
 b4y : Binds K A.c2i ["self"] []
 b9p : Fun K "through" "Echo.through" b0k A.a4j A.b5v
 b9q : Binds K A.b5v ["self", "state", "tops", "bottom"] []
 c8i : Fun K "reach" "Echo.reach" b4r A.a8r A.d2v
 d9o : Binds K A.d2v ["self"] []
 d3n : Fun K "word" "Echo.word" b7o A.b1j A.d8t
 f6n : Binds K A.d8t ["self"] []
 d3o : Fun K "__init__" "Back.__init__" b7p A.b1k A.d8u
 f6o : Binds K A.d8u ["self", "gain", "many"] []
 c8j : Fun K "grain" "Back.grain" b4s A.a6t A.c2j
 b4z : Binds K A.c2j ["self"] []
 b9r : Fun K "through" "Back.through" b0l A.a4k A.b5w
 b9s : Binds K A.b5w ["self", "state", "tops", "bottom"] []
 d3p : Fun K "word" "Back.word" b7q A.b1l A.d8v
 f6p : Binds K A.d8v ["self"] []
 d3q : Fun K "__init__" "Hall.__init__" b7r A.b1m A.d8w
 f6q : Binds K A.d8w ["self", "gain", "many"] []
 b9t : Fun K "through" "Hall.through" b0m A.a4l A.b5y
 b9u : Binds K A.b5y ["self", "state", "tops", "bottom"] []
 d3r : Fun K "word" "Hall.word" b7s A.b1n A.d8y
 f6r : Binds K A.d8y ["self"] []
 b1t : Fun K "shared_bottom" "shared_bottom" a7v A.a6g A.c1m
 c4t : Binds K A.c1m ["bottoms"] []
 h1o : mg "shared_bottom" = some (.ref A.a6g)
 c4u : Fun K "slopes_of" "slopes_of" b7t A.b3v A.d8z
 f6s : Binds K A.d8z ["corners"] []
 j7v : mg "slopes_of" = some (.ref A.b3v)
 i0q : Fun K "over" "over" i0m A.h1e A.j7t
 k4o : Binds K A.j7t ["one", "bottom"] []
 m0s : mg "over" = some (.ref A.h1e)
 b6l : Fun K "corner_word" "corner_word" b2g A.a9g A.c9j
 d3s : Binds K A.c9j ["corner"] []
 i2x : mg "corner_word" = some (.ref A.a9g)
 c8k : Fun K "__init__" "Swell.__init__" a6q A.a8s A.d2w
 d9p : Binds K A.d2w ["self", "corners"] []
 c2k : Fun K "grain" "Swell.grain" b2h A.a5o A.b9m
 b2u : Binds K A.b9m ["self"] []
 c2l : Fun K "fresh" "Swell.fresh" b2j A.a6u A.c9k
 a5q : Binds K A.c9k ["self"] []
 b6m : Fun K "line_at" "Swell.line_at" a7w A.a4p A.c1n
 c4v : Binds K A.c1n ["self", "at"] []
 b6n : Fun K "gain_at" "Swell.gain_at" a7y A.a4q A.c1o
 c4w : Binds K A.c1o ["self", "at"] []
 b6o : Fun K "through" "Swell.through" a5w A.a3t A.b3p
 b6p : Binds K A.b3p ["self", "state", "tops", "bottom"] []
 c8l : Fun K "word" "Swell.word" b0u A.a8t A.d2y
 d9q : Binds K A.d2y ["self"] []
 a9n : Fun K "read_gain" "read_gain" b7u A.b3w A.d9g
 b4h : Binds K A.d9g ["text"] []
 c4y : mg "read_gain" = some (.ref A.b3w)
 a6y : Fun K "read_number" "read_number" b2k A.a9h A.c9l
 b2v : Binds K A.c9l ["text", "least", "most"] []
 c2m : mg "read_number" = some (.ref A.a9h)
 b4i : Fun K "read_many" "read_many" b7v A.b3y A.d9h
 c4z : Binds K A.d9h ["text"] []
 f6t : mg "read_many" = some (.ref A.b3y)
 a4m : Fun K "check_count" "check_count" b2l A.a9i A.c9m
 a6z : Binds K A.c9m ["values", "count"] []
 b2w : mg "check_count" = some (.ref A.a9i)
 d9r : Fun K "gain_of" "gain_of" d1i A.b5z A.g2d
 h1p : Binds K A.g2d ["values"] []
 m8h : mg "gain_of" = some (.ref A.b5z)
 d1u : Fun K "delay_of" "delay_of" c3o A.b2s A.f5v
 g2o : Binds K A.f5v ["values"] []
 m5e : mg "delay_of" = some (.ref A.b2s)
 d9s : Fun K "echo_of" "echo_of" d1j A.b6g A.g2e
 h1q : Binds K A.g2e ["values"] []
 m8i : mg "echo_of" = some (.ref A.b6g)
 d9t : Fun K "back_of" "back_of" d1k A.b6h A.g2f
 h1r : Binds K A.g2f ["values"] []
 m8j : mg "back_of" = some (.ref A.b6h)
 d9u : Fun K "hall_of" "hall_of" d1l A.b6i A.g2g
 h1s : Binds K A.g2g ["values"] []
 m8k : mg "hall_of" = some (.ref A.b6i)
 b6q : Fun K "read_corner" "read_corner" b2m A.a9j A.c9n
 d3t : Binds K A.c9n ["text"] []
 i2y : mg "read_corner" = some (.ref A.a9j)
 d1v : Fun K "swell_of" "swell_of" b7w A.b2t A.f5w
 g2p : Binds K A.f5w ["values"] []
 m5f : mg "swell_of" = some (.ref A.b2t)
 b0h : Fun K "part_of" "part_of" d1m A.c4o A.g2h
 b3h : Binds K A.g2h ["word"] []
 c0w : mg "part_of" = some (.ref A.c4o)
 d1w : Fun K "parts_of" "parts_of" b7y A.b8o A.f5y
 g2q : Binds K A.f5y ["words"] []
 k6r : mg "parts_of" = some (.ref A.b8o)
 c8m : Fun K "__init__" "Chain.__init__" b0v A.a8u A.d2z
 c8n : Binds K A.d2z ["self", "words"] []
 b6r : Fun K "through" "Chain.through" a7z A.a4r A.c1p
 c5g : Binds K A.c1p ["self", "tops", "bottom"] []
 c2n : Fun K "grain" "Chain.grain" b2n A.a6v A.c9o
 d3u : Binds K A.c9o ["self"] []
 c2o : Fun K "words" "Chain.words" a8z A.a6w A.c9p
 c2p : Binds K A.c9p ["self"] []
 a9o : Fun K "_law_cell_at" "_law_cell_at" b2o A.a9k A.c9q
 b6s : Binds K A.c9q ["_law_script", "_law_k"] []
 d3v : mg "_law_cell_at" = some (.ref A.a9k)
 b4j : Fun K "_law_whole" "_law_whole" b7z A.b3z A.d9i
 c5h : Binds K A.d9i ["_law_found"] []
 f6u : mg "_law_whole" = some (.ref A.b3z)
 b2y : Fun K "_law_divisor" "_law_divisor" b2p A.a9l A.c9r
 c2q : Binds K A.c9r ["_law_one", "_law_other"] []
 g0p : mg "_law_divisor" = some (.ref A.a9l)
 b5g : Fun K "_law_gain" "_law_gain" c3p A.b8p A.f5z
 c3y : Binds K A.f5z ["_law_mixed", "_law_great"] []
 f3s : mg "_law_gain" = some (.ref A.b8p)
 c0y : Fun K "_law_weaker" "_law_weaker" b4t A.b1o A.d3g
 d9v : Binds K A.d3g ["_law_mixed", "_law_great"] []
 j0p : mg "_law_weaker" = some (.ref A.b1o)
 c5i : Fun K "_law_swell" "_law_swell" b8g A.b4g A.d9j
 f6v : Binds K A.d9j ["_law_mixed", "_law_great"] []
 j7w : mg "_law_swell" = some (.ref A.b4g)
 d1y : Fun K "_law_word" "_law_word" c3q A.b8q A.f6g
 g2r : Binds K A.f6g ["_law_cell", "_law_great"] []
 k6s : mg "_law_word" = some (.ref A.b8q)
 d1z : Fun K "_law_tone" "_law_tone" c3r A.b8r A.f6h
 g2s : Binds K A.f6h ["_law_cell"] []
 k6t : mg "_law_tone" = some (.ref A.b8r)
 d2g : Fun K "_law_cuts" "_law_cuts" c3s A.b8s A.f6i
 g2t : Binds K A.f6i ["_law_row", "_law_cells"] []
 k6u : mg "_law_cuts" = some (.ref A.b8s)
 d9w : Fun K "_law_due" "_law_due" d1n A.c4p A.g2i
 h1t : Binds K A.g2i ["_law_words", "_law_tops", "_law_bottom"] []
 l3q : mg "_law_due" = some (.ref A.c4p)
 a5j : Fun K "_law_words_told" "_law_words_told" a6m A.a5i A.b8t
 b0i : Binds K A.b8t ["_law_chain", "_law_words"] []
 c1q : mg "_law_words_told" = some (.ref A.a5i)
 b6t : Fun K "_law_is_told" "_law_is_told" b2q A.a9m A.c9s
 d3w : Binds K A.c9s ["_law_told", "_law_block"] []
 i3a : mg "_law_is_told" = some (.ref A.a9m)
 b5h : Fun K "_law_joined" "_law_joined" a8o A.b1p A.d3h
 c8o : Binds K A.d3h ["_law_chain", "_law_blocks", "_law_bottom"] []
 g5r : mg "_law_joined" = some (.ref A.b1p)
 c3z : Fun K "_law_same" "_law_same" c3t A.b8u A.f6j
 f3t : Binds K A.f6j ["_law_joined_here", "_law_due_here"] []
 i0r : mg "_law_same" = some (.ref A.b8u)
 l8d : Fun K "law" "law" j0e A.j7u A.l3l
 m8l : Binds K A.l3l ["_law_script"] []
 m_law : mg "law" = some (.ref A.j7u)
 g6r : mg "abs" = none
 i0s : mg "bool" = none
 c5j : mg "enumerate" = none
 h6o : mg "int" = none
 a3k : mg "isinstance" = none
 b3i : mg "len" = none
 b3j : mg "list" = none
 k6v : mg "max" = none
 l3r : mg "min" = none
 c1r : mg "range" = none
 f4j : mg "str" = none
 d3y : mg "tuple" = none
 j0q : mg "zip" = none
 i3b : mg "Part" = some (.ref A.d7i)
 h1u : mg "Gain" = some (.ref A.a5k)
 g0q : mg "Delay" = some (.ref A.a3m)
 h1v : mg "Echo" = some (.ref A.a3j)
 h1w : mg "Back" = some (.ref A.a4s)
 h1x : mg "Hall" = some (.ref A.a4y)
 g0r : mg "Swell" = some (.ref A.a2n)
 f3u : mg "Chain" = some (.ref A.a5p)
 n2j : Cls K A.d7i
 l8e : Meth K A.d7i "grain" A.a3i
 l8f : Meth K A.d7i "fresh" A.a2h
 a2w : Cls K A.a5k
 a1t : a8n K A.a5k "gain"
 m8m : Mk K A.a5k A.b1g
 c2r : Meth K A.a5k "grain" A.a6r
 d9y : Meth K A.a5k "through" A.a4i
 j0r : Meth K A.a5k "word" A.b1h
 a9p : Meth K A.a5k "fresh" A.a2h
 a2o : Cls K A.a3m
 a1q : a8n K A.a3m "many"
 m2q : Mk K A.a3m A.a8p
 d7j : Meth K A.a3m "through" A.a3s
 i3c : Meth K A.a3m "word" A.a8q
 b9v : Meth K A.a3m "grain" A.a3i
 a7k : Meth K A.a3m "fresh" A.a2h
 a2t : Cls K A.a3j
 a1m : a8n K A.a3j "gain"
 a1n : a8n K A.a3j "many"
 a1l : a8n K A.a3j "turns"
 a0w : a8n K A.a3j "factors"
 a0m : a8n K A.a3j "factor_bottom"
 m8n : Mk K A.a3j A.b1i
 c2s : Meth K A.a3j "grain" A.a6s
 d9z : Meth K A.a3j "through" A.a4j
 i3d : Meth K A.a3j "reach" A.a8r
 j0s : Meth K A.a3j "word" A.b1j
 a9q : Meth K A.a3j "fresh" A.a2h
 a2y : Cls K A.a4s
 a1u : a8n K A.a4s "gain"
 a1v : a8n K A.a4s "many"
 m8o : Mk K A.a4s A.b1k
 c2t : Meth K A.a4s "grain" A.a6t
 f0g : Meth K A.a4s "through" A.a4k
 j0t : Meth K A.a4s "word" A.b1l
 a9r : Meth K A.a4s "fresh" A.a2h
 a3h : Cls K A.a4y
 a1y : a8n K A.a4y "gain"
 a1z : a8n K A.a4y "many"
 m8p : Mk K A.a4y A.b1m
 f0h : Meth K A.a4y "through" A.a4l
 j0u : Meth K A.a4y "word" A.b1n
 c2u : Meth K A.a4y "grain" A.a3i
 a9s : Meth K A.a4y "fresh" A.a2h
 a2i : Cls K A.a2n
 a0q : a8n K A.a2n "corners"
 a0s : a8n K A.a2n "shared"
 a1g : a8n K A.a2n "lines"
 m2r : Mk K A.a2n A.a8s
 b9w : Meth K A.a2n "grain" A.a5o
 a7l : Meth K A.a2n "fresh" A.a6u
 g6s : Meth K A.a2n "line_at" A.a4p
 g6t : Meth K A.a2n "gain_at" A.a4q
 d7k : Meth K A.a2n "through" A.a3t
 i3e : Meth K A.a2n "word" A.a8t
 a6i : Cls K A.a5p
 a2j : a8n K A.a5p "parts"
 a1w : a8n K A.a5p "states"
 l3s : Mk K A.a5p A.a8u
 g6u : Meth K A.a5p "through" A.a4r
 h6p : Meth K A.a5p "grain" A.a6v
 f4r : Meth K A.a5p "words" A.a6w
 d2h : mg "FIGURES" = some A.j0l
 k6w : RelV (.str "0123456789") A.j0l
 a4g : mg "MOST_FIGURES_wholes" = some A.c0t
 d7u : RelV (.int 13) A.c0t
 a4h : mg "MOST_FIGURES_ratios" = some A.c0u
 d7v : RelV (.int 9) A.c0u
 b5i : mg "MOST_GAIN" = some A.h1f
 g5s : RelV (.int 1000) A.h1f
 b5j : mg "MOST_MANY" = some A.h1g
 g5t : RelV (.int 1000) A.h1g
 b6u : mg "MOST_TURNS" = some A.g5n
 i3f : RelV (.int 16) A.g5n
 d2i : mg "MOST_AT" = some A.j0m
 k6x : RelV (.int 100000) A.j0m
 b1u : mg "MOST_CORNERS" = some A.f4q
 h1y : RelV (.int 12) A.f4q
 b6v : mg "MOST_PARTS" = some A.g5o
 i3g : RelV (.int 8) A.g5o
 a8i : mg "READERS" = some (.ref A.a2s)
 k6y : n2e K A.wd A.a2s
 a8j : PySem.W.nsIn K A.a2s "gain" = some (some (.ref A.b5z))
 a6o : PySem.W.nsIn K A.a2s "delay" = some (some (.ref A.b2s))
 a8k : PySem.W.nsIn K A.a2s "echo" = some (some (.ref A.b6g))
 a8l : PySem.W.nsIn K A.a2s "back" = some (some (.ref A.b6h))
 a6p : PySem.W.nsIn K A.a2s "swell" = some (some (.ref A.b2t))
 a8m : PySem.W.nsIn K A.a2s "hall" = some (some (.ref A.b6i))
theorem nq0 : (("__init__" : Str) == ("gain" : Str)) = false := by decide +kernel
theorem nq1 : (("grain" : Str) == ("gain" : Str)) = false := by decide +kernel
theorem nq2 : (("through" : Str) == ("gain" : Str)) = false := by decide +kernel
theorem nq3 : (("word" : Str) == ("gain" : Str)) = false := by decide +kernel
theorem nq4 : (("fresh" : Str) == ("gain" : Str)) = false := by decide +kernel
theorem nq5 : (("reach" : Str) == ("gain" : Str)) = false := by decide +kernel
theorem nq6 : (("__init__" : Str) == ("many" : Str)) = false := by decide +kernel
theorem nq7 : (("through" : Str) == ("many" : Str)) = false := by decide +kernel
theorem nq8 : (("reach" : Str) == ("many" : Str)) = false := by decide +kernel
theorem nq9 : (("word" : Str) == ("many" : Str)) = false := by decide +kernel
theorem nq10 : (("grain" : Str) == ("many" : Str)) = false := by decide +kernel
theorem nq11 : (("fresh" : Str) == ("many" : Str)) = false := by decide +kernel
theorem nq12 : (("gain" : Str) == ("many" : Str)) = false := by decide +kernel
theorem nq13 : (("gain" : Str) == ("turns" : Str)) = false := by decide +kernel
theorem nq14 : (("gain" : Str) == ("factors" : Str)) = false := by decide +kernel
theorem nq15 : (("gain" : Str) == ("factor_bottom" : Str)) = false := by decide +kernel
theorem nq16 : (("many" : Str) == ("gain" : Str)) = false := by decide +kernel
theorem nq17 : (("many" : Str) == ("turns" : Str)) = false := by decide +kernel
theorem nq18 : (("many" : Str) == ("factors" : Str)) = false := by decide +kernel
theorem nq19 : (("many" : Str) == ("factor_bottom" : Str)) = false := by decide +kernel
theorem nq20 : (("turns" : Str) == ("gain" : Str)) = false := by decide +kernel
theorem nq21 : (("turns" : Str) == ("many" : Str)) = false := by decide +kernel
theorem nq22 : (("turns" : Str) == ("factors" : Str)) = false := by decide +kernel
theorem nq23 : (("turns" : Str) == ("factor_bottom" : Str)) = false := by decide +kernel
theorem nq24 : (("factors" : Str) == ("gain" : Str)) = false := by decide +kernel
theorem nq25 : (("factors" : Str) == ("many" : Str)) = false := by decide +kernel
theorem nq26 : (("factors" : Str) == ("turns" : Str)) = false := by decide +kernel
theorem nq27 : (("factors" : Str) == ("factor_bottom" : Str)) = false := by decide +kernel
theorem nq28 : (("factor_bottom" : Str) == ("gain" : Str)) = false := by decide +kernel
theorem nq29 : (("factor_bottom" : Str) == ("many" : Str)) = false := by decide +kernel
theorem nq30 : (("factor_bottom" : Str) == ("turns" : Str)) = false := by decide +kernel
theorem nq31 : (("factor_bottom" : Str) == ("factors" : Str)) = false := by decide +kernel
theorem nq32 : (("__init__" : Str) == ("turns" : Str)) = false := by decide +kernel
theorem nq33 : (("__init__" : Str) == ("factors" : Str)) = false := by decide +kernel
theorem nq34 : (("__init__" : Str) == ("factor_bottom" : Str)) = false := by decide +kernel
theorem nq35 : (("grain" : Str) == ("turns" : Str)) = false := by decide +kernel
theorem nq36 : (("grain" : Str) == ("factors" : Str)) = false := by decide +kernel
theorem nq37 : (("grain" : Str) == ("factor_bottom" : Str)) = false := by decide +kernel
theorem nq38 : (("through" : Str) == ("turns" : Str)) = false := by decide +kernel
theorem nq39 : (("through" : Str) == ("factors" : Str)) = false := by decide +kernel
theorem nq40 : (("through" : Str) == ("factor_bottom" : Str)) = false := by decide +kernel
theorem nq41 : (("reach" : Str) == ("turns" : Str)) = false := by decide +kernel
theorem nq42 : (("reach" : Str) == ("factors" : Str)) = false := by decide +kernel
theorem nq43 : (("reach" : Str) == ("factor_bottom" : Str)) = false := by decide +kernel
theorem nq44 : (("word" : Str) == ("turns" : Str)) = false := by decide +kernel
theorem nq45 : (("word" : Str) == ("factors" : Str)) = false := by decide +kernel
theorem nq46 : (("word" : Str) == ("factor_bottom" : Str)) = false := by decide +kernel
theorem nq47 : (("fresh" : Str) == ("turns" : Str)) = false := by decide +kernel
theorem nq48 : (("fresh" : Str) == ("factors" : Str)) = false := by decide +kernel
theorem nq49 : (("fresh" : Str) == ("factor_bottom" : Str)) = false := by decide +kernel
theorem nq50 : (("corners" : Str) == ("shared" : Str)) = false := by decide +kernel
theorem nq51 : (("corners" : Str) == ("lines" : Str)) = false := by decide +kernel
theorem nq52 : (("shared" : Str) == ("corners" : Str)) = false := by decide +kernel
theorem nq53 : (("shared" : Str) == ("lines" : Str)) = false := by decide +kernel
theorem nq54 : (("lines" : Str) == ("corners" : Str)) = false := by decide +kernel
theorem nq55 : (("lines" : Str) == ("shared" : Str)) = false := by decide +kernel
theorem nq56 : (("__init__" : Str) == ("corners" : Str)) = false := by decide +kernel
theorem nq57 : (("__init__" : Str) == ("shared" : Str)) = false := by decide +kernel
theorem nq58 : (("__init__" : Str) == ("lines" : Str)) = false := by decide +kernel
theorem nq59 : (("grain" : Str) == ("corners" : Str)) = false := by decide +kernel
theorem nq60 : (("grain" : Str) == ("shared" : Str)) = false := by decide +kernel
theorem nq61 : (("grain" : Str) == ("lines" : Str)) = false := by decide +kernel
theorem nq62 : (("fresh" : Str) == ("corners" : Str)) = false := by decide +kernel
theorem nq63 : (("fresh" : Str) == ("shared" : Str)) = false := by decide +kernel
theorem nq64 : (("fresh" : Str) == ("lines" : Str)) = false := by decide +kernel
theorem nq65 : (("line_at" : Str) == ("corners" : Str)) = false := by decide +kernel
theorem nq66 : (("line_at" : Str) == ("shared" : Str)) = false := by decide +kernel
theorem nq67 : (("line_at" : Str) == ("lines" : Str)) = false := by decide +kernel
theorem nq68 : (("gain_at" : Str) == ("corners" : Str)) = false := by decide +kernel
theorem nq69 : (("gain_at" : Str) == ("shared" : Str)) = false := by decide +kernel
theorem nq70 : (("gain_at" : Str) == ("lines" : Str)) = false := by decide +kernel
theorem nq71 : (("through" : Str) == ("corners" : Str)) = false := by decide +kernel
theorem nq72 : (("through" : Str) == ("shared" : Str)) = false := by decide +kernel
theorem nq73 : (("through" : Str) == ("lines" : Str)) = false := by decide +kernel
theorem nq74 : (("word" : Str) == ("corners" : Str)) = false := by decide +kernel
theorem nq75 : (("word" : Str) == ("shared" : Str)) = false := by decide +kernel
theorem nq76 : (("word" : Str) == ("lines" : Str)) = false := by decide +kernel
theorem nq77 : (("reach" : Str) == ("corners" : Str)) = false := by decide +kernel
theorem nq78 : (("reach" : Str) == ("shared" : Str)) = false := by decide +kernel
theorem nq79 : (("reach" : Str) == ("lines" : Str)) = false := by decide +kernel
theorem nq80 : (("parts" : Str) == ("states" : Str)) = false := by decide +kernel
theorem nq81 : (("states" : Str) == ("parts" : Str)) = false := by decide +kernel
theorem nq82 : (("__init__" : Str) == ("parts" : Str)) = false := by decide +kernel
theorem nq83 : (("__init__" : Str) == ("states" : Str)) = false := by decide +kernel
theorem nq84 : (("through" : Str) == ("parts" : Str)) = false := by decide +kernel
theorem nq85 : (("through" : Str) == ("states" : Str)) = false := by decide +kernel
theorem nq86 : (("grain" : Str) == ("parts" : Str)) = false := by decide +kernel
theorem nq87 : (("grain" : Str) == ("states" : Str)) = false := by decide +kernel
theorem nq88 : (("reach" : Str) == ("parts" : Str)) = false := by decide +kernel
theorem nq89 : (("reach" : Str) == ("states" : Str)) = false := by decide +kernel
theorem nq90 : (("words" : Str) == ("parts" : Str)) = false := by decide +kernel
theorem nq91 : (("words" : Str) == ("states" : Str)) = false := by decide +kernel
seal PE PT PA PS PSs PI PO PW PG PGs PEX PSX
local macro_rules | `(tactic| walk_at "bits") => `(tactic| first | with_reducible assumption | exact intBits_le_64 (by omega) (by omega) | exact (intBits_le_iff (m := 250)).mpr (by decide) | ((with_reducible apply intBits_mul_le) <;> walk_at "bits") | ((with_reducible apply intBits_add_le) <;> walk_at "bits") | ((with_reducible apply intBits_sub_le) <;> walk_at "bits") | ((with_reducible apply intBits_neg_le) <;> walk_at "bits") | ((with_reducible apply intBits_natAbs_le) <;> walk_at "bits") | ((with_reducible apply intBits_fdiv_le) <;> walk_at "bits") | ((with_reducible apply intBits_fmod_le) <;> walk_at "bits"))
local macro_rules | `(tactic| walk_at "mul") => `(tactic| first | exact IntMulOk.of_right (intBits_le_64 (by omega) (by omega)) | exact IntMulOk.of_left (intBits_le_64 (by omega) (by omega)) | ((with_reducible apply IntMulOk.of_le) <;> first | walk_at "bits" | decide))
local macro_rules | `(tactic| walk_at "le") => `(tactic| ((with_reducible apply Nat.le_trans) <;> first | walk_at "bits" | decide))
variable {P : Program} {w : World} {K : PySem.W.Frag} {mg : Str -> Option Value} {base : Heap} {A : Ad}
def j7x : Sp := fun vs H Q _ => match vs with | [.int a, .int b] => Q (.int (Int.gcd a b)) H | _ => False
def m2s : Sp := fun vs H Q _ => match vs with | [.int a, .int b] => intBits a <= 4000 /\ intBits b <= 4000 /\ Q (.int (Int.lcm a b)) H | _ => False
def m2t : Sp := fun vs H Q _ => match vs with | [.int _] => Q (.bl true) H | _ => False
def l3t : Sp := fun vs H Q _ => match vs with
 | [.int t, .int b] => b ≠ 0 /\ intBits t <= 4000 /\ intBits b <= 4000 /\ All (g0b H (d7y (Rat.divInt t b))) Q ⟨⟩ ⟨⟩
 | _ => False
def m2u : Sp := fun vs H Q _ => match vs with | [.str x] => Q (.bl (l2q (sg x))) H | _ => False
def j7y : Sp := fun vs H Q _ => match vs with | [.ref p] => ∃ t b : Int, H p = some (.tup [.int t, .int b]) /\ t.natAbs.log2 < 1920 /\ b.natAbs.log2 < 1920 /\ (∀ y : Str, sg y = l7p t b -> Q (.str y) H) | _ => False
def l3u : Sp := fun vs H Q _ => match vs with | [.str x] => ∃ t b, Good (sg x) t b /\ All (g0b H [.int t, .int b]) Q ⟨⟩ ⟨⟩ | _ => False
def m2v : Sp := fun vs H Q _ => match vs with
 | [.str x] => ∃ n : Nat, sg x = txt (n : Int) /\ n < 10 ^ 9 /\ Q (.int n) H
 | _ => False
def Two (H : Hp) (p q : Addr) (x y : Rat) : Prop := H p = some (.tup (d7y x)) /\ H q = some (.tup (d7y y)) /\ intBits x.num <= 900 /\ intBits (x.den : Int) <= 900 /\ intBits y.num <= 900 /\ intBits (y.den : Int) <= 900
def l3v : Sp := fun vs H Q _ => match vs with
 | [.ref p, .ref q] => ∃ x y : Rat, Two H p q x y /\ All (g0b H (d7y (x + y))) Q ⟨⟩ ⟨⟩
 | _ => False
def l3w : Sp := fun vs H Q _ => match vs with
 | [.ref p, .ref q] => ∃ x y : Rat, Two H p q x y /\ All (g0b H (d7y (x * y))) Q ⟨⟩ ⟨⟩
 | _ => False
def l3x : Sp := fun vs H Q _ => match vs with
 | [.ref p] => ∃ x : Rat, H p = some (.tup (d7y x)) /\ All (g0b H (d7y (Rat.abs x))) Q ⟨⟩ ⟨⟩
 | _ => False
def j7z : Sp := fun vs H Q _ => match vs with
 | [.ref p, .ref q] => ∃ x y : Rat, Two H p q x y /\ Q (.bl (decide (x.num * (y.den : Int) < y.num * (x.den : Int)))) H
 | _ => False
def Rts (H : Hp) (qs : List Addr) (ss : List Rat) : Prop := qs.length = ss.length /\ ∀ (i : Nat) q s, qs[i]? = some q -> ss[i]? = some s -> H q = some (.tup (d7y s))
def k4p (l : Addr) (H : Hp) (qs : List Addr) (ss : List Rat) : Prop := qs.length = ss.length /\ ∀ (i : Nat) q s, qs[i]? = some q -> ss[i]? = some s -> q ≠ l /\ H q = some (.tup (d7y s))
def Crn (H : Hp) (ps : List Addr) (cs : List (Int × Rat)) : Prop := ps.length = cs.length /\ ∀ (i : Nat) p c, ps[i]? = some p -> cs[i]? = some c -> ∃ g, H p = some (.tup [.int c.1, .ref g]) /\ H g = some (.tup (d7y c.2))
def l3y (cs : List (Int × Rat)) : Prop := (∀ c ∈ cs, 0 <= c.1 /\ c.1 <= 200000 /\ intBits c.2.num <= 10 /\ intBits (c.2.den : Int) <= 10) /\ ∀ (i : Nat) c d, cs[i]? = some c -> cs[i + 1]? = some d -> c.1 < d.1
noncomputable def l1g (bs : List Int) : Int := bs.foldl (fun o b => (Int.lcm o b : Int)) 1
def i3h : Sp := fun vs H Q _ => match vs with
 | [.ref p] => ∃ bs : List Int, H p = some (.lst (bs.map V.int)) /\ (∀ b ∈ bs, 1 <= b /\ intBits b <= 64) /\ bs.length <= 24 /\ Q (.int (l1g bs)) H
 | _ => False
def j8a : Sp := fun vs H Q _ => match vs with
 | [.ref p, .int S] => ∃ y : Rat, H p = some (.tup (d7y y)) /\ intBits y.num <= 2000 /\ intBits (y.den : Int) <= 2000 /\ intBits S <= 2000 /\ Q (.int (y.num * S.fdiv y.den)) H
 | _ => False
def SlR (cs : List (Int × Rat)) (i : Nat) (s : Rat) : Prop := ∀ c d, cs[i]? = some c -> cs[i + 1]? = some d -> s * ((d.1 - c.1 : Int) : Rat) = d.2 - c.2
def i3i : Sp := fun vs H Q _ => match vs with
 | [.ref ct] => ∃ (ps : List Addr) (cs : List (Int × Rat)), H ct = some (.tup (ps.map V.ref)) /\ Crn H ps cs /\ l3y cs /\ 1 <= cs.length /\ cs.length <= 12 /\
   (∀ l H' qs ss, H l = none -> Same H H' -> H' l = some (.lst (List.map V.ref qs)) -> Rts H' qs ss -> ss.length = cs.length -> (∀ s ∈ ss, intBits s.num <= 60 /\ intBits (s.den : Int) <= 60) -> (∀ j s, ss[j]? = some s -> SlR cs j s) -> ss[cs.length - 1]? = some 0 -> Q (.ref l) H')
 | _ => False
noncomputable def l6k (ns ms : List Int) : List Int := (List.range (max ns.length ms.length)).map fun k => ns.getD k 0 + ms.getD k 0
noncomputable def n2k (ns ms : List Int) : List Int := ((List.range (min ns.length ms.length)).map fun k => ns.getD k 0 + ms.getD k 0) ++ ns.drop (min ns.length ms.length) ++ ms.drop (min ns.length ms.length)
def m2w : Sp := fun vs H Q _ => match vs with
 | [.ref p, .ref q] => ∃ ns ms : List Int, H p = some (.lst (ns.map V.int)) /\ H q = some (.lst (ms.map V.int)) /\ ns.length <= 1000000 /\ ms.length <= 1000000 /\ All (i9w H ((l6k ns ms).map V.int)) Q ⟨⟩ ⟨⟩
 | _ => False
def j8b : Sp := fun vs H Q _ => match vs with
 | [.ref p, .int b] => ∃ ns : List Int, H p = some (.lst (ns.map V.int)) /\ (∀ n ∈ ns, IntMulOk n b) /\ ns.length <= 1000000 /\ All (i9w H ((ns.map (· * b)).map V.int)) Q ⟨⟩ ⟨⟩
 | _ => False
noncomputable def j0v (ns : List Int) (st n : Nat) : List Int := (List.range (ns.length - st)).map fun i => if n <= st + i then ns.getD (st + i - n) 0 else 0
def h1z : Sp := fun vs H Q _ => match vs with
 | [.ref k, .int st, .int n] => ∃ (ns : List Int) (s m : Nat), H k = some (.lst (ns.map V.int)) /\ st = s /\ n = m /\ s <= ns.length /\ ns.length <= 1000000 /\ All (i9w H ((j0v ns s m).map V.int)) Q ⟨⟩ ⟨⟩
 | _ => False
def l3z : Sp := fun vs H Q _ => match vs with
 | [.ref k, .int n] => ∃ (ns : List Int) (m : Nat), H k = some (.lst (ns.map V.int)) /\ n = m /\ ns.length <= 1000000 /\ All (g0b H ((ns.drop (ns.length - m)).map V.int)) Q ⟨⟩ ⟨⟩
 | _ => False
noncomputable def l4a (n : Int) (m : Nat) : List Int := (List.range (m + 1)).map fun j => n ^ j
def m2x : Sp := fun vs H Q _ => match vs with
 | [.int n, .int t] => ∃ m : Nat, t = m /\ m <= 16 /\ intBits n <= 10 /\ All (i9w H ((l4a n m).map V.int)) Q ⟨⟩ ⟨⟩
 | _ => False
noncomputable def m0t (p q : Int) (t j : Nat) : Int := p ^ j * q ^ (t - j)
noncomputable def l6l (p q : Int) (t : Nat) : List Int := (List.range (t + 1)).map (m0t p q t)
noncomputable def ecF (gt fa : Addr) (n t : Nat) (q : Int) : List (Str × V) := [("gain", .ref gt), ("many", .int n), ("turns", .int t), ("factors", .ref fa), ("factor_bottom", .int (q ^ t))]
def IsE (C : Addr) (H : Hp) (o : Addr) (p q : Int) (n t : Nat) : Prop := ∃ dx gt fa, H o = some (.ins C dx (ecF gt fa n t q)) /\ H gt = some (.tup [.int p, .int q]) /\ H fa = some (.tup ((l6l p q t).map V.int))
def j8c (C : Addr) : Sp := fun vs H Q _ => match vs with
 | [.ref o, .ref gt, .int n, .int t] => ∃ (dx : Addr) (m tt : Nat) (p q : Int), n = m /\ t = tt /\ tt <= 16 /\ intBits p <= 10 /\ intBits q <= 10 /\ H gt = some (.tup [.int p, .int q]) /\ H o = some (.ins C dx []) /\
   (∀ (fa : Addr) (H1 : Hp), a6j o H H1 -> H fa = none -> H1 o = some (.ins C dx (ecF gt fa m tt q)) -> H1 fa = some (.tup ((l6l p q tt).map V.int)) -> Q .non H1)
 | _ => False
def i3j (C : Addr) : Sp := fun vs H Q _ => match vs with
 | [.ref o] => ∃ p q n t, IsE C H o p q n t /\ Q (.int (q ^ t)) H
 | _ => False
def i3k (C : Addr) : Sp := fun vs H Q _ => match vs with
 | [.ref o] => ∃ p q n t, IsE C H o p q n t /\ n <= 1000000 /\ Q (.int (((n * t : Nat)) : Int)) H
 | _ => False
noncomputable def l6m (kn : List Int) (st n : Nat) (p q : Int) (t : Nat) : Nat -> List Int
 | 0 => []
 | j + 1 => l6k (l6m kn st n p q t j) ((j0v kn st (j * n)).map (· * m0t p q t j))
def l4b (C : Addr) : Sp := fun vs H Q _ => match vs with
 | [.ref o, .ref st, .ref x, .int _] => ∃ (p q : Int) (n t : Nat) (zs xs : List Int), IsE C H o p q n t /\ H st = some (.tup (zs.map V.int)) /\ H x = some (.lst (xs.map V.int)) /\ zs.length <= 100000 /\ xs.length <= 100000 /\ n <= 1000000 /\ t <= 16 /\ intBits p <= 10 /\ intBits q <= 10 /\ (∀ y ∈ zs ++ xs, intBits y <= 1000000) /\
   (∀ (r ou s2 : Addr) (H1 : Hp), Same H H1 -> H r = none -> H ou = none -> H1 r = some (.tup [.ref ou, .ref s2]) -> H1 ou = some (.lst ((l6m (zs ++ xs) zs.length n p q t (t + 1)).map V.int)) -> H1 s2 = some (.tup (((zs ++ xs).drop ((zs ++ xs).length - n * t)).map V.int)) -> Q (.ref r) H1)
 | _ => False
noncomputable def i0t (X : Nat -> Int) (p q : Int) (t : Nat) : Nat -> Int
 | 0 => 0
 | j + 1 => i0t X p q t j + X j * m0t p q t j
def Tps (H : Hp) (qs : List Addr) (vs : List (List V)) : Prop := qs.length = vs.length /\ ∀ (i : Nat) q v, qs[i]? = some q -> vs[i]? = some v -> H q = some (.tup v)
def k4q (l : Addr) (H : Hp) (qs : List Addr) (vs : List (List V)) : Prop := qs.length = vs.length /\ ∀ (i : Nat) q v, qs[i]? = some q -> vs[i]? = some v -> q ≠ l /\ H q = some (.tup v)
noncomputable def lnOf (S : Int) (c : Int × Rat) (s : Rat) : Int × Int × Int := (c.1, c.2.num * S.fdiv c.2.den, s.num * S.fdiv s.den)
noncomputable def lnV (l : Int × Int × Int) : List V := [.int l.1, .int l.2.1, .int l.2.2]
def SwOk (cs : List (Int × Rat)) (ss : List Rat) (S : Int) : Prop := ss.length = cs.length /\ (∀ j s, ss[j]? = some s -> SlR cs j s) /\ ss[cs.length - 1]? = some 0 /\ 1 <= S /\ intBits S <= 1600 /\ (∀ c ∈ cs, (c.2.den : Int) ∣ S) /\ (∀ s ∈ ss, (s.den : Int) ∣ S) /\ (∀ s ∈ ss, intBits s.num <= 60) /\ intBits S <= 1 + 128 * cs.length /\ S = l1g ((cs.map fun c => (c.2.den : Int)) ++ ss.map fun s => (s.den : Int))
noncomputable def swF (ct ln : Addr) (S : Int) : List (Str × V) := [("corners", .ref ct), ("shared", .int S), ("lines", .ref ln)]
def i3l (C : Addr) : Sp := fun vs H Q _ => match vs with
 | [.ref o, .ref l] => ∃ (dx : Addr) (ps : List Addr) (cs : List (Int × Rat)), H o = some (.ins C dx []) /\ H l = some (.lst (ps.map V.ref)) /\ Crn H ps cs /\ l3y cs /\ 1 <= cs.length /\ cs.length <= 12 /\
   (∀ ct ln S ss us H1, a6j o H H1 -> H ct = none -> H1 o = some (.ins C dx (swF ct ln S)) -> H1 ct = some (.tup (ps.map V.ref)) -> H1 ln = some (.tup (us.map V.ref)) -> Tps H1 us ((List.zipWith (lnOf S) cs ss).map lnV) -> SwOk cs ss S -> Q .non H1)
 | _ => False
def j8d (C : Addr) : Sp := fun vs H Q _ => match vs with
 | [.ref o, .ref gt] => ∃ dx, H o = some (.ins C dx []) ∧ (∀ H1, a6j o H H1 → H1 o = some (.ins C dx [("gain", .ref gt)]) → Q .non H1)
 | _ => False
def i3m (C : Addr) : Sp := fun vs H Q _ => match vs with
 | [.ref o, .int n] => ∃ dx, H o = some (.ins C dx []) ∧ (∀ H1, a6j o H H1 → H1 o = some (.ins C dx [("many", .int n)]) → Q .non H1)
 | _ => False
def j8e (C : Addr) : Sp := fun vs H Q _ => match vs with
 | [.ref o, .ref gt, .int n] => ∃ dx, H o = some (.ins C dx []) ∧ (∀ H1, a6j o H H1 → H1 o = some (.ins C dx [("gain", .ref gt), ("many", .int n)]) → Q .non H1)
 | _ => False
def j8f (C : Addr) : Sp := fun vs H Q _ => match vs with
 | [.ref o, .ref gt, .int n] => ∃ dx, H o = some (.ins C dx []) ∧ (∀ H1, a6j o H H1 → H1 o = some (.ins C dx [("gain", .ref gt), ("many", .int n)]) → Q .non H1)
 | _ => False
noncomputable def clsOf (A : Ad) : Dt -> Addr
 | .gain _ => A.a5k
 | .delay _ => A.a3m
 | .echo .. => A.a3j
 | .back .. => A.a4s
 | .hall .. => A.a4y
 | .swell _ => A.a2n
noncomputable def gnF (g : Addr) : List (Str × V) := [("gain", .ref g)]
noncomputable def dlF (n : Nat) : List (Str × V) := [("many", .int n)]
noncomputable def bkF (g : Addr) (n : Nat) : List (Str × V) := [("gain", .ref g), ("many", .int n)]
noncomputable def l4c (H : Hp) (fs : List (Str × V)) : Dt -> Prop
 | .gain y => ∃ g, fs = gnF g /\ H g = some (.tup (d7y y))
 | .delay n => fs = dlF n
 | .echo y n t => ∃ g fa, fs = ecF g fa n t (y.den : Int) /\ H g = some (.tup (d7y y)) /\ H fa = some (.tup ((l6l y.num (y.den : Int) t).map V.int))
 | .back y n => ∃ g, fs = bkF g n /\ H g = some (.tup (d7y y))
 | .hall y n => ∃ g, fs = bkF g n /\ H g = some (.tup (d7y y))
 | .swell cs => ∃ ct ln S ss us ps, fs = swF ct ln S /\ H ct = some (.tup (List.map V.ref ps)) /\ H ln = some (.tup (List.map V.ref us)) /\ Tps H us ((List.zipWith (lnOf S) cs ss).map lnV) /\ SwOk cs ss S /\ Crn H ps cs
def IsP (A : Ad) (H : Hp) (o : Addr) (d : Dt) : Prop := ∃ dx fs, H o = some (.ins (clsOf A d) dx fs) /\ l4c H fs d
def m2y (C : Addr) (H : Hp) (o : Addr) (ps : List Addr) (cs : List (Int × Rat)) (ss : List Rat) (S : Int) : Prop := ∃ dx ct ln us, H o = some (.ins C dx (swF ct ln S)) /\ H ct = some (.tup (ps.map V.ref)) /\ H ln = some (.tup (us.map V.ref)) /\ Tps H us ((List.zipWith (lnOf S) cs ss).map lnV) /\ Crn H ps cs
def l4d (C : Addr) : Sp := fun vs H Q _ => match vs with
 | [.ref o, .int t] => ∃ ps cs ss S, m2y C H o ps cs ss S /\ SwOk cs ss S /\ 1 <= cs.length /\ cs.length <= 12 /\
   (∀ (m : Nat) u c s, cs[m]? = some c -> ss[m]? = some s -> H u = some (.tup (lnV (lnOf S c s))) -> (m = 0 \/ c.1 <= t) -> (∀ d, cs[m + 1]? = some d -> t < d.1) -> Q (.ref u) H)
 | _ => False
noncomputable def g2u (S t : Int) (c : Int × Rat) (s : Rat) : Int := c.2.num * S.fdiv c.2.den + s.num * S.fdiv s.den * max 0 (t - c.1)
def m0u (cs : List (Int × Rat)) (ss : List Rat) (t : Int) (m : Nat) (c : Int × Rat) (s : Rat) : Prop := cs[m]? = some c /\ ss[m]? = some s /\ (m = 0 \/ c.1 <= t) /\ (∀ d, cs[m + 1]? = some d -> t < d.1)
def i3n (C : Addr) : Sp := fun vs H Q _ => match vs with
 | [.ref o, .int t] => ∃ ps cs ss S, m2y C H o ps cs ss S /\ SwOk cs ss S /\ l3y cs /\ 1 <= cs.length /\ cs.length <= 12 /\ 0 <= t /\ t <= 100000 /\ (∀ m c s, m0u cs ss t m c s -> intBits (g2u S t c s) <= 2000 -> Q (.int (g2u S t c s)) H)
 | _ => False
def h2a (C : Addr) : Sp := fun vs H Q _ => match vs with
 | [.ref o] => ∃ ps cs ss S, m2y C H o ps cs ss S /\ Q (.int S) H
 | _ => False
def g0s : Sp := fun vs H Q _ => match vs with
 | [.ref _] => Q (.int 0) H
 | _ => False
def f0i : Sp := fun vs H Q _ => match vs with
 | [.ref o] => All (g0b H []) Q ⟨⟩ ⟨⟩
 | _ => False
def IsG (C : Addr) (H : Hp) (o : Addr) (p q : Int) : Prop := ∃ dx gt, H o = some (.ins C dx [("gain", .ref gt)]) ∧ H gt = some (.tup [.int p, .int q])
def i3o (C : Addr) : Sp := fun vs H Q _ => match vs with
 | [.ref o] => ∃ p q, IsG C H o p q /\ Q (.int q) H
 | _ => False
def l4e (C : Addr) : Sp := fun vs H Q _ => match vs with
 | [.ref o, .ref st, .ref x, .int _] => ∃ (p q : Int) (xs : List Int), IsG C H o p q /\ H x = some (.lst (xs.map V.int)) /\ xs.length <= 100000 /\ (∀ y ∈ xs, IntMulOk y p) /\
   (∀ (r ou s2 : Addr) (H1 : Hp), Same H H1 -> H r = none -> H ou = none -> H1 r = some (.tup [.ref ou, .ref s2]) -> H1 ou = some (.lst ((xs.map (· * p)).map V.int)) -> Q (.ref r) H1)
 | _ => False
def IsD (C : Addr) (H : Hp) (o : Addr) (n : Nat) : Prop := ∃ dx, H o = some (.ins C dx [("many", .int n)])
def d3z : Sp := fun vs H Q _ => match vs with
 | [.ref o] => Q (.int 1) H
 | _ => False
def l4f (C : Addr) : Sp := fun vs H Q _ => match vs with
 | [.ref o, .ref st, .ref x, .int _] => ∃ (n : Nat) (zs xs : List Int), IsD C H o n /\ H st = some (.tup (zs.map V.int)) /\ H x = some (.lst (xs.map V.int)) /\ zs.length <= 100000 /\ xs.length <= 100000 /\
   (∀ (r ou s2 : Addr) (H1 : Hp), Same H H1 -> H r = none -> H ou = none -> H1 r = some (.tup [.ref ou, .ref s2]) -> H1 ou = some (.lst ((j0v (zs ++ xs) zs.length n).map V.int)) -> H1 s2 = some (.tup (((zs ++ xs).drop ((zs ++ xs).length - n)).map V.int)) -> Q (.ref r) H1)
 | _ => False
def i3p (C : Addr) : Sp := fun vs H Q _ => match vs with
 | [.ref o] => ∃ dx gt n p q, H o = some (.ins C dx (bkF gt n)) /\ H gt = some (.tup [.int p, .int q]) /\ Q (.int q) H
 | _ => False
def l4g (C : Addr) : Sp := fun vs H Q _ => match vs with
 | [.ref o, .ref st, .ref x, .int _] => ∃ dx gt n p q zs xs, H o = some (.ins C dx (bkF gt n)) /\ H gt = some (.tup [.int p, .int q]) /\ H st = some (.tup (zs.map V.int)) /\ H x = some (.lst (xs.map V.int)) /\ zs.length <= 100000 /\ xs.length <= 100000 /\ (∀ y ∈ zs, IntMulOk y (-p)) /\ (∀ y ∈ xs, IntMulOk y (-p)) /\ (∀ y ∈ xs, IntMulOk y q) /\ IntMulOk 0 (-p) /\
   (∀ (r ou s2 : Addr) (H1 : Hp), Same H H1 -> H r = none -> H ou = none -> H s2 = none -> H1 r = some (.tup [.ref ou, .ref s2]) -> H1 ou = some (.lst ((l6k (xs.map (· * q)) ((j0v (zs ++ xs) zs.length n).map (· * (-p)))).map V.int)) -> H1 s2 = some (.tup (((zs ++ xs).drop ((zs ++ xs).length - n)).map V.int)) -> Q (.ref r) H1)
 | _ => False
noncomputable def twn (t b : Int) : Int := if 0 <= t then t.fdiv b else -((-t).fdiv b)
def m2z : Sp := fun vs H Q _ => match vs with
 | [.int t, .int b] => 1 <= b /\ intBits b <= 8964 /\ Q (.int (twn t b)) H
 | _ => False
noncomputable def hadd (p q bt h : Int) : Int := twn (p * h) (q * bt)
noncomputable def heard (kn : List Int) (n : Nat) : Int := if n <= kn.length then kn.getD (kn.length - n) 0 else 0
noncomputable def hallL (p q bt : Int) (n : Nat) : List Int -> List Int -> List Int
 | kn, [] => kn
 | kn, x :: xs => hallL p q bt n (kn ++ [x + hadd p q bt (heard kn n) * bt]) xs
def l4h (C : Addr) : Sp := fun vs H Q _ => match vs with
 | [.ref o, .ref st, .ref x, .int bt] => ∃ (dx gt : Addr) (n : Nat) (p q : Int) (zs xs : List Int), H o = some (.ins C dx (bkF gt n)) /\ H gt = some (.tup [.int p, .int q]) /\ H st = some (.tup (zs.map V.int)) /\ H x = some (.lst (xs.map V.int)) /\ zs.length <= 100000 /\ xs.length <= 100000 /\ 1 <= n /\ 1 <= q /\ 1 <= bt /\ intBits p <= 64 /\ intBits q <= 64 /\ intBits bt <= 8900 /\ (p.natAbs : Int) <= q /\ (∀ y ∈ zs, intBits y <= 150000) /\ (∀ y ∈ xs, intBits y <= 150000) /\
   (∀ (r ou s2 : Addr) (H1 : Hp), Same H H1 -> H r = none -> H ou = none -> H1 r = some (.tup [.ref ou, .ref s2]) -> H1 ou = some (.lst (((hallL p q bt n zs xs).drop zs.length).map V.int)) -> H1 s2 = some (.tup (((hallL p q bt n zs xs).drop ((hallL p q bt n zs xs).length - n)).map V.int)) -> Q (.ref r) H1)
 | _ => False
noncomputable def h2b (S t : Int) : List (Int × Rat) -> List Rat -> Int
 | c :: cs, s :: ss => (match cs with
  | [] => g2u S t c s
  | d :: _ => if t < d.1 then g2u S t c s else h2b S t cs ss)
 | _, _ => 0
noncomputable def g0t (b S : Int) (ss : List Rat) (xs : List Int) (i : Nat) : Dt -> Int
 | .gain y => xs.getD i 0 * y.num
 | .delay n => if n <= i then xs.getD (i - n) 0 else 0
 | .echo y n t => i0t (fun m => if m * n <= i then xs.getD (i - m * n) 0 else 0) y.num (y.den : Int) t (t + 1)
 | .back y n => xs.getD i 0 * (y.den : Int) + (if n <= i then xs.getD (i - n) 0 else 0) * (-y.num)
 | .hall y n => (hallL y.num (y.den : Int) b n [] xs).getD i 0
 | .swell cs => h2b S (i : Int) cs ss * xs.getD i 0
noncomputable def outs (d : Dt) (b S : Int) (ss : List Rat) (xs ys : List Int) : List Int := (List.range ys.length).map fun i => g0t b S ss (xs ++ ys) (xs.length + i) d
noncomputable def b8z (S : Int) : Dt -> Int
 | .gain y => y.den
 | .delay _ => 1
 | .echo y _ t => (y.den : Int) ^ t
 | .back y _ => y.den
 | .hall _ _ => 1
 | .swell _ => S
noncomputable def StV (H : Hp) (b : Int) (xs : List Int) (st : V) : Dt -> Prop
 | .gain _ => ∃ p, st = V.ref p
 | .delay n => ∃ p, st = V.ref p /\ H p = some (.tup ((xs.drop (xs.length - n)).map V.int))
 | .echo _ n t => ∃ p, st = V.ref p /\ H p = some (.tup ((xs.drop (xs.length - n * t)).map V.int))
 | .back _ n => ∃ p, st = V.ref p /\ H p = some (.tup ((xs.drop (xs.length - n)).map V.int))
 | .hall y n => ∃ p, st = V.ref p /\ H p = some (.tup (((hallL y.num (y.den : Int) b n [] xs).drop (xs.length - n)).map V.int))
 | .swell _ => st = V.int (xs.length : Int)
noncomputable def FsS (H : Hp) (fs : List (Str × V)) (S : Int) (ss : List Rat) : Dt -> Prop
 | .swell cs => ∃ ct ln us ps, fs = swF ct ln S /\ H ct = some (.tup (List.map V.ref ps)) /\ H ln = some (.tup (List.map V.ref us)) /\ Tps H us ((List.zipWith (lnOf S) cs ss).map lnV) /\ SwOk cs ss S /\ Crn H ps cs
 | d => l4c H fs d
def g2v (A : Ad) (H : Hp) (o : Addr) (d : Dt) (S : Int) (ss : List Rat) : Prop := ∃ dx fs, H o = some (.ins (clsOf A d) dx fs) /\ FsS H fs S ss d
def g2w (A : Ad) (k : Nat) : Sp := fun vs H Q _ => match vs with
 | [.ref o, st, .ref l, .int b] => ∃ (d : Dt) (S : Int) (ss : List Rat) (xs ys : List Int), d.kd = k /\ g2v A H o d S ss /\ d.ok /\ StV H b xs st d /\ H l = some (.lst (ys.map V.int)) /\ xs.length <= 40000 /\ ys.length <= 40000 /\ 1 <= b /\ intBits b <= 8900 /\ (∀ y ∈ xs ++ ys, intBits y <= 100000) /\
   (∀ r ou st' H1, Same H H1 -> H r = none -> H ou = none -> H1 r = some (.tup [.ref ou, st']) -> H1 ou = some (.lst ((outs d b S ss xs ys).map V.int)) -> StV H1 b (xs ++ ys) st' d -> Q (.ref r) H1)
 | _ => False
def l4i (C : Addr) : Sp := fun vs H Q _ => match vs with
 | [.ref o, .int n0, .ref x, .int _] => ∃ ps cs ss S, ∃ (m0 : Nat) (xs : List Int), n0 = m0 /\ m2y C H o ps cs ss S /\ SwOk cs ss S /\ l3y cs /\ 1 <= cs.length /\ cs.length <= 12 /\ H x = some (.lst (xs.map V.int)) /\ m0 <= 40000 /\ xs.length <= 40000 /\ (∀ y ∈ xs, intBits y <= 100000) /\
   (∀ (r ou : Addr) (H1 : Hp), Same H H1 -> H r = none -> H ou = none -> H1 r = some (.tup [.ref ou, .int ((m0 + xs.length : Nat) : Int)]) -> H1 ou = some (.lst (((List.range xs.length).map fun i => h2b S ((m0 + i : Nat) : Int) cs ss * xs.getD i 0).map V.int)) -> Q (.ref r) H1)
 | _ => False
def g6v (A : Ad) (k : Nat) : Sp := fun vs H Q _ => match vs with
 | [.ref o] => ∃ (d : Dt) (S : Int) (ss : List Rat), d.kd = k /\ g2v A H o d S ss /\ Q (.int (b8z S d)) H
 | _ => False
def n2l : Sp := fun vs H Q _ => match vs with
 | [.str x] => ∃ y : Rat, x = fW y /\ YOk y /\ All (g0b H (d7y y)) Q ⟨⟩ ⟨⟩
 | _ => False
def n2m : Sp := fun vs H Q _ => match vs with
 | [.str x, .int a, .int b] => ∃ n : Nat, sg x = txt (n : Int) /\ n < 10 ^ 9 /\ a <= n /\ (n : Int) <= b /\ Q (.int n) H
 | _ => False
def n2n : Sp := fun vs H Q _ => match vs with
 | [.str x] => ∃ n : Nat, x = nW n /\ 1 <= n /\ n <= 1000 /\ Q (.int n) H
 | _ => False
def n2o : Sp := fun vs H Q _ => match vs with
 | [.ref l, .int c] => ∃ xs, H l = some (.lst xs) /\ (xs.length : Int) = c /\ Q .non H
 | _ => False
def i8z (A : Ad) (k : Nat) : Sp := fun vs H Q _ => match vs with
 | [.ref l] => ∃ d : Dt, d.kd = k /\ d.ok /\ H l = some (.lst (d.vals.map V.str)) /\ (∀ o H1, H o = none -> Same H H1 -> IsP A H1 o d -> Q (.ref o) H1)
 | _ => False
def n2p : Sp := fun vs H Q _ => match vs with
 | [.str x] => ∃ c : Int × Rat, x = cW c /\ 0 <= c.1 /\ c.1 <= 100000 /\ YOk c.2 /\ (∀ p g H1, H p = none -> Same H H1 -> H1 p = some (.tup [.int c.1, .ref g]) -> H1 g = some (.tup (d7y c.2)) -> Q (.ref p) H1)
 | _ => False
def f4s (A : Ad) : Sp := fun vs H Q _ => match vs with
 | [.str x] => ∃ d : Dt, d.ok /\ x = d.word /\ (∀ o H1, H o = none -> Same H H1 -> IsP A H1 o d -> Q (.ref o) H1)
 | _ => False
def n2q : Sp := fun vs H Q _ => match vs with
 | [.ref p] => ∃ x : Rat, H p = some (.tup (d7y x)) /\ intBits x.num <= 10 /\ intBits (x.den : Int) <= 10 /\ Q (.str (fW x)) H
 | _ => False
def n2r : Sp := fun vs H Q _ => match vs with
 | [.ref p] => ∃ (c : Int × Rat) (g : Addr), H p = some (.tup [.int c.1, .ref g]) /\ H g = some (.tup (d7y c.2)) /\ c.1.natAbs < 2 ^ 20 /\ intBits c.2.num <= 10 /\ intBits (c.2.den : Int) <= 10 /\ Q (.str (cW c)) H
 | _ => False
def i9a (A : Ad) (k : Nat) : Sp := fun vs H Q _ => match vs with
 | [.ref o] => ∃ d : Dt, d.kd = k /\ IsP A H o d /\ d.ok /\ (∀ H1, Same H H1 -> Q (.str d.word) H1)
 | _ => False
noncomputable def Dt.few : Dt -> Prop
 | .swell cs => cs.length <= 4
 | _ => True
def Crs (b b' : Int) (xs xs' : List Int) : Prop := xs.length = xs'.length /\ ∀ i, xs.getD i 0 * b' = xs'.getD i 0 * b
noncomputable def f6w (x : (Dt × Int × List Rat)) (b : Int) (xs ys : List Int) : List Int := outs x.1 b x.2.1 x.2.2 xs ys
noncomputable def gn6 (x : (Dt × Int × List Rat)) : Int := b8z x.2.1 x.1
noncomputable def g1t : List (Dt × Int × List Rat) -> Int -> List Int -> List Int
 | [], _, xs => xs
 | x :: ds, b, xs => g1t ds (b * gn6 x) (f6w x b [] xs)
noncomputable def l6n : List (Dt × Int × List Rat) -> Int -> List Int -> List Int -> List Int
 | [], _, _, c => c
 | x :: ds, b, a, c => l6n ds (b * gn6 x) (f6w x b [] a) (f6w x b a c)
noncomputable def g2x (b : Int) (ds : List (Dt × Int × List Rat)) : Int := ds.foldl (fun b x => b * gn6 x) b
def h0a (A : Ad) (H : Hp) (os : List Addr) (ds : List (Dt × Int × List Rat)) : Prop := os.length = ds.length /\ ∀ (i : Nat) o x, os[i]? = some o -> ds[i]? = some x -> g2v A H o x.1 x.2.1 x.2.2
def Sts (H : Hp) (b : Int) (ds : List (Dt × Int × List Rat)) (sts : List V) (xs : List Int) : Prop := sts.length = ds.length /\ ∀ (i : Nat) st x, sts[i]? = some st -> ds[i]? = some x -> StV H (g2x b (ds.take i)) (g1t (ds.take i) b xs) st x.1
noncomputable def chF (pl sl : Addr) : List (Str × V) := [("parts", .ref pl), ("states", .ref sl)]
noncomputable def ch1 (pl : V) : List (Str × V) := [("parts", pl)]
def ChP (A : Ad) (H : Hp) (o pl sl : Addr) (b : Int) (ds : List (Dt × Int × List Rat)) (xs : List Int) : Prop := ∃ dx os sts, H o = some (.ins A.a5p dx (chF pl sl)) /\ H pl = some (.lst (os.map V.ref)) /\ H sl = some (.lst sts) /\ h0a A H os ds /\ Sts H b ds sts xs
def Lk (H : Hp) (D : Addr) : Prop := (∀ ts, H D ≠ some (.tup ts)) /\ ∀ c dx fs, H D = some (.ins c dx fs) -> (fs = [] \/ (∃ pl : V, fs = ch1 pl) \/ ∃ pl sl, fs = chF pl sl)
def m3a (A : Ad) : Sp := fun vs H Q _ => match vs with
 | [.ref l] => ∃ ds : List Dt, H l = some (.lst (ds.map fun d => V.str d.word)) /\ ds.length <= 8 /\ (∀ d ∈ ds, d.ok) /\ (∀ p os (xs : List (Dt × Int × List Rat)) H1, H p = none -> Same H H1 -> H1 p = some (.lst (os.map V.ref)) -> xs.map (·.1) = ds -> h0a A H1 os xs -> Q (.ref p) H1)
 | _ => False
def j8g (A : Ad) : Sp := fun vs H Q _ => match vs with
 | [.ref o, .ref l] => ∃ (dx : Addr) (ds : List Dt), H o = some (.ins A.a5p dx []) /\ H l = some (.lst (ds.map fun d => V.str d.word)) /\ ds.length <= 8 /\ (∀ d ∈ ds, d.ok) /\ (∀ H1 (xs : List (Dt × Int × List Rat)), a6j o H H1 -> xs.map (·.1) = ds -> (∃ pl sl, H pl = none /\ H sl = none /\ ∀ b, ChP A H1 o pl sl b xs []) -> Q .non H1)
 | _ => False
def l4j (A : Ad) : Sp := fun vs H Q _ => match vs with
 | [.ref o, .ref l, .int b] => ∃ (pl sl : Addr) (ds : List (Dt × Int × List Rat)) (xs ys : List Int), ChP A H o pl sl b ds xs /\ H l = some (.lst (ys.map V.int)) /\ ds.length <= 8 /\ (∀ x ∈ ds, x.1.ok /\ Dt.few x.1) /\ xs.length <= 200 /\ ys.length <= 200 /\ 1 <= b /\ intBits b <= 64 /\ (∀ y ∈ xs ++ ys, intBits y <= 64) /\
   (∀ r lo sl' H1, a6j o H H1 -> H r = none -> H lo = none -> H sl' = none -> sl' ≠ lo -> H1 r = some (.tup [.ref lo, .int (g2x b ds)]) -> H1 lo = some (.lst ((l6n ds b xs ys).map V.int)) -> ChP A H1 o pl sl' b ds (xs ++ ys) -> Q (.ref r) H1)
 | _ => False
def m3b (A : Ad) : Sp := fun vs H Q _ => match vs with
 | [.ref o] => ∃ (pl sl : Addr) (b : Int) (ds : List (Dt × Int × List Rat)) (xs : List Int), ChP A H o pl sl b ds xs /\ ds.length <= 8 /\ (∀ x ∈ ds, x.1.ok /\ Dt.few x.1) /\ Q (.int (g2x 1 ds)) H
 | _ => False
def m3c (A : Ad) : Sp := fun vs H Q _ => match vs with
 | [.ref o] => ∃ (pl sl : Addr) (b : Int) (ds : List (Dt × Int × List Rat)) (xs : List Int), ChP A H o pl sl b ds xs /\ ds.length <= 8 /\ (∀ x ∈ ds, x.1.ok /\ Dt.few x.1) /\ All (i9w H ((ds.map (·.1)).map fun d => V.str d.word)) Q ⟨⟩ ⟨⟩
 | _ => False
def l4k (K : PySem.W.Frag) : Sp := fun vs H Q _ => match vs with | [.ref a, .int k] => ∃ ns : List Int, SqL K H a (ns.map V.int) /\ 0 <= k /\ Q (.int (ns.getD k.toNat 0)) H | _ => False
def j8h : Sp := fun vs H Q _ => match vs with | [.int _] => Q (.bl true) H | _ => False
noncomputable def l6o (c : Int) : Int := if ((c * 48271).fmod 999983).fmod 4 = 1 then 0 else (c * 618033988749894848204587).fmod 2000000000001 - 1000000000000
def j8i : Sp := fun vs H Q _ => match vs with | [.int c] => intBits c <= 1100000 /\ Q (.int (l6o c)) H | _ => False
def j8j : Sp := fun vs H Q _ => match vs with
 | [.int m, .bl _] => (∀ (y : Rat), YOk y -> Q (.str (fW y)) H)
 | _ => False
def j8k : Sp := fun vs H Q _ => match vs with
 | [.int m, .bl _] => (∀ (y : Rat), YOk y -> (y.num.natAbs : Int) < y.den -> Q (.str (fW y)) H)
 | _ => False
def m3d : Sp := fun vs H Q _ => match vs with
 | [.int m, .bl _] => 0 <= m /\ (∀ (cs : List (Int × Rat)) H1, j6t cs -> cs.length <= 4 -> Same H H1 -> Q (.str (Dt.swell cs).word) H1)
 | _ => False
def j8l : Sp := fun vs H Q _ => match vs with
 | [.int c, .bl _] => intBits c <= 1100000 /\ (∀ (d : Dt) H1, d.ok -> Dt.few d -> Same H H1 -> Q (.str d.word) H1)
 | _ => False
def Bks (H : Hp) (bs : List Addr) (bk : List (List Int)) : Prop := bs.length = bk.length /\ ∀ (i : Nat) p x, bs[i]? = some p -> bk[i]? = some x -> H p = some (.lst (x.map V.int))
def l4l : Sp := fun vs H Q _ => match vs with
 | [.ref r, .ref c] => ∃ row ns : List Int, H r = some (.lst (row.map V.int)) /\ H c = some (.lst (ns.map V.int)) /\ row.length <= 100 /\ ns.length <= 70 /\ (∀ n ∈ ns, intBits n <= 1100000) /\ (∀ L bs (bk : List (List Int)) H1, H L = none -> Same H H1 -> H1 L = some (.lst (bs.map V.ref)) -> Bks H1 bs bk -> bk.flatten = row -> bk.length <= 71 -> Q (.ref L) H1)
 | _ => False
def m3e (A : Ad) : Sp := fun vs H Q _ => match vs with
 | [.ref l, .ref t, .int b] => ∃ (ds : List Dt) (row : List Int), H l = some (.lst (ds.map fun d => V.str d.word)) /\ H t = some (.lst (row.map V.int)) /\ ds.length <= 8 /\ (∀ d ∈ ds, d.ok /\ Dt.few d) /\ row.length <= 100 /\ 1 <= b /\ intBits b <= 64 /\ (∀ y ∈ row, intBits y <= 64) /\ (∀ r lo os (xs : List (Dt × Int × List Rat)) H1, Same H H1 -> xs.map (·.1) = ds -> h0a A H1 os xs -> H1 r = some (.tup [.ref lo, .int (g2x b xs)]) -> H1 lo = some (.lst ((g1t xs b row).map V.int)) -> Q (.ref r) H1)
 | _ => False
def j8m (A : Ad) : Sp := fun vs H Q _ => match vs with
 | [.ref o, .ref l] => ∃ (pl sl : Addr) (b : Int) (ds : List (Dt × Int × List Rat)) (xs : List Int), ChP A H o pl sl b ds xs /\ ds.length <= 8 /\ (∀ x ∈ ds, x.1.ok /\ Dt.few x.1) /\ H l = some (.lst ((ds.map (·.1)).map fun d => V.str d.word)) /\ (∀ H1, Same H H1 -> Q (.bl true) H1)
 | _ => False
def i3q : Sp := fun vs H Q _ => match vs with
 | [.ref r, .ref bl] => ∃ (lo : Addr) (G : Int) (zs ys : List Int), H r = some (.tup [.ref lo, .int G]) /\ H lo = some (.lst (zs.map V.int)) /\ H bl = some (.lst (ys.map V.int)) /\ zs.length = ys.length /\ 1 <= G /\ zs.length <= 100 /\ Q (.bl true) H
 | _ => False
def i9b (H : Hp) (ps : List Addr) (zs : List Int) (G : Int) : Prop := ps.length = zs.length /\ ∀ (i : Nat) p z, ps[i]? = some p -> zs[i]? = some z -> H p = some (.tup [.int z, .int G])
def i3r (A : Ad) : Sp := fun vs H Q _ => match vs with
 | [.ref o, .ref L, .int b] => ∃ (pl sl : Addr) (ds : List (Dt × Int × List Rat)) (bs : List Addr) (bk : List (List Int)), ChP A H o pl sl b ds [] /\ ds.length <= 8 /\ (∀ x ∈ ds, x.1.ok /\ Dt.few x.1) /\ 1 <= b /\ intBits b <= 64 /\ H L = some (.lst (bs.map V.ref)) /\ Bks H bs bk /\ bk.flatten.length <= 100 /\ bk.length <= 71 /\ (∀ y ∈ bk.flatten, intBits y <= 64) /\ (∀ J ps sl' H1, a6j o H H1 -> ChP A H1 o pl sl' b ds bk.flatten -> H1 J = some (.lst (ps.map V.ref)) -> i9b H1 ps (g1t ds b bk.flatten) (g2x b ds) -> Q (.ref J) H1)
 | _ => False
def j8n : Sp := fun vs H Q _ => match vs with
 | [.ref J, .ref r] => ∃ (ps : List Addr) (zs xs : List Int) (G G' : Int) (lo : Addr), H J = some (.lst (ps.map V.ref)) /\ i9b H ps zs G /\ H r = some (.tup [.ref lo, .int G']) /\ H lo = some (.lst (xs.map V.int)) /\ Crs G G' zs xs /\ zs.length <= 100 /\ intBits G <= 9000 /\ intBits G' <= 9000 /\ (∀ z ∈ zs, intBits z <= 100000) /\ (∀ z ∈ xs, intBits z <= 100000) /\ Q (.bl true) H
 | _ => False
local macro_rules | `(tactic| walk_at $s:str) => do
 unless s.getString == "rd" || s.getString == "rd*" do Lean.Macro.throwUnsupported
 let mut ls : Array (Lean.TSyntax [`Lean.Parser.Tactic.simpStar, `Lean.Parser.Tactic.simpErase, `Lean.Parser.Tactic.simpLemma]) := #[]
 if s.getString == "rd*" then
  let y <- `(Lean.Parser.Tactic.simpStar| *)
  ls := ls.push ⟨y.raw⟩
 for n in "j7x m2s m2t l3t m2u j7y l3u m2v l3v l3w l3x j7z i3h j8a i3i m2w j8b h1z l3z m2x j8c i3j i3k l4b i3l j8d i3m j8e j8f l4d i3n h2a g0s f0i i3o l4e d3z l4f i3p l4g m2z l4h g2w l4i g6v n2l n2m n2n n2o i8z n2p f4s n2q n2r i9a m3a j8g l4j m3b m3c l4k j8h j8i j8j j8k m3d j8l l4l m3e j8m i3q i3r j8n n1t iStr rSlA n1u n1v tFmt n1w m7k n1x m7l rInM n2d rSlG n2b m0n gSub rSetM m8a m8b rIxD rNiD m7z n2i m1u n1y n0j a3o m7n n4n m7o m7u rIsI n2a m7v m0l m7w tSeq n0d a7q tC l6s tOp tUn tIfS tRet tRetN n0p tCB h6e d7w n1c n1d h6f tAnd tOr tNot tBF m7b tOrF m7c n0q tIf n1b m1q l9z m0a n4d m0b tSl m1k m0c rIF m4z rUF n1e n1f n1g n3x rIxM rSlM n1h n1o n1p n1n rIsT rAbs rMin rMax m7e rSumF m7g tBMF n1s n1r m7i n4e n4f n4g n4h m5s n4m n4i n4k n4l hAs _root_.L2.start".splitOn " " do
  let i := Lean.mkIdent n.toName
  let y <- `(Lean.Parser.Tactic.simpLemma| ↓$i:ident)
  ls := ls.push ⟨y.raw⟩
 for n in "noxK Bool.bne_false Bool.bne_true noxK noxK asNew lookup_same m0g m7p m5a n0k List.lookup_nil nq0 nq1 nq2 nq3 nq4 nq5 nq6 nq7 nq8 nq9 nq10 nq11 nq12 nq13 nq14 nq15 nq16 nq17 nq18 nq19 nq20 nq21 nq22 nq23 nq24 nq25 nq26 nq27 nq28 nq29 nq30 nq31 nq32 nq33 nq34 nq35 nq36 nq37 nq38 nq39 nq40 nq41 nq42 nq43 nq44 nq45 nq46 nq47 nq48 nq49 nq50 nq51 nq52 nq53 nq54 nq55 nq56 nq57 nq58 nq59 nq60 nq61 nq62 nq63 nq64 nq65 nq66 nq67 nq68 nq69 nq70 nq71 nq72 nq73 nq74 nq75 nq76 nq77 nq78 nq79 nq80 nq81 nq82 nq83 nq84 nq85 nq86 nq87 nq88 nq89 nq90 nq91 n3y n3z n4a n4b n4c l9w Ty.nm n3q n3w m6x m6y m6z m7a l9y m1r List.map_cons List.map_nil List.length_cons List.length_nil List.length_map List.replicate List.cons_append List.nil_append List.append_nil List.getElem?_cons_zero List.getElem?_cons_succ List.set_cons_zero List.set_cons_succ Option.some.injEq exists_eq_left' exists_eq_left exists_and_left V.int.injEq V.bl.injEq V.str.injEq V.ref.injEq V.ty.injEq Value.ref.injEq List.cons.injEq HO.lst.injEq HO.tup.injEq Int.zero_add List.length_append and_true true_and n1i n1j n1k n1l n1m two_line if_true reduceCtorEq if_false Bool.false_eq_true decide_eq_true_eq decide_eq_false_iff_not decide_true decide_false Bool.or_true Bool.true_or Bool.or_false Bool.false_or Bool.and_true Bool.true_and Bool.and_false Bool.false_and or_false false_or Nat.zero_add Nat.reduceAdd Nat.reduceSub exists_const false_and and_false Bool.not_true Bool.not_false Bool.not_eq_true' ne_eq not_true_eq_false not_false_eq_true Int.reduceEq Int.reduceNe Int.reduceLT Int.reduceLE Int.reducePow Int.reduceMul Int.reduceAdd Int.reduceSub Int.reduceNeg Int.reduceToNat Nat.reducePow Nat.reduceLT Nat.reduceLeDiff".splitOn " " do
  let i := Lean.mkIdent n.toName
  let y <- `(Lean.Parser.Tactic.simpLemma| $i:ident)
  ls := ls.push ⟨y.raw⟩
 `(tactic| simp (config := { maxSteps := 1000000, dsimp := false }) only [$ls,*])
theorem k4r {l r : Int} (hl : 0 <= l) (hr : 0 < r) : Int.gcd r (l.fmod r) = Int.gcd l r := by
 rw [Int.fmod_eq_emod_of_nonneg _ (by omega)]
 obtain ⟨x, rfl⟩ := Int.eq_ofNat_of_zero_le hl
 obtain ⟨y, rfl⟩ := Int.eq_ofNat_of_zero_le (by omega : 0 <= r)
 rw [<- Int.natCast_emod, Int.gcd_natCast_natCast, Int.gcd_natCast_natCast, Nat.gcd_comm x y, Nat.gcd_rec y x, Nat.gcd_comm]
theorem l4m {l r : Int} (hl : 0 <= l) (hr : 0 < r) : 0 <= l.fmod r /\ l.fmod r < r := by
 rw [Int.fmod_eq_emod_of_nonneg _ (by omega)]
 exact ⟨Int.emod_nonneg _ (by omega), Int.emod_lt_of_pos _ hr⟩
theorem b5k (a : Int) {b : Int} (hb : 0 < b) : 0 <= a.fmod b /\ a.fmod b < b := by
 rw [Int.fmod_eq_emod_of_nonneg _ (by omega)]
 exact ⟨Int.emod_nonneg _ (by omega), Int.emod_lt_of_pos _ hb⟩
theorem h2c (a b : Int) : Int.gcd (a.natAbs : Int) (b.natAbs : Int) = Int.gcd a b := by
 rw [Int.gcd_natCast_natCast]; rfl
theorem gcd_zero {l : Int} (hl : 0 <= l) : ((Int.gcd l 0 : Nat) : Int) = l := by
 rw [Int.gcd_zero_right]; omega
theorem m8q (a b : Int) : (a.natAbs : Int).fdiv (Int.gcd a b : Int) * (b.natAbs : Int) = (Int.lcm a b : Int) := by
 rw [Int.fdiv_eq_ediv_of_nonneg _ (Int.natCast_nonneg _), <- Int.natCast_ediv, <- Int.natCast_mul]
 congr 1
 show a.natAbs / Nat.gcd a.natAbs b.natAbs * b.natAbs = Nat.lcm a.natAbs b.natAbs
 unfold Nat.lcm
 exact Nat.div_mul_right_comm (Nat.gcd_dvd_left _ _) _
theorem lcm_zero {a b : Int} (h : a = 0 \/ b = 0) : Int.lcm a b = 0 := by
 rcases h with rfl | rfl
 ·exact Int.lcm_zero_left _
 ·exact Int.lcm_zero_right _
theorem k4s {a b : Int} {n : Nat} (h : a ≠ 0) (ha : intBits a <= n) : intBits (Int.gcd a b : Int) <= n := by
 refine intBits_le_of_natAbs ?_ ha
 rw [Int.natAbs_natCast]
 exact Nat.le_of_dvd (by omega) (Nat.gcd_dvd_left _ _)
theorem d4g {a g : Int} (hg : 0 < g) (h : g ∣ a) : (a.fdiv g).natAbs = a.natAbs / g.natAbs := by
 rw [Int.fdiv_eq_ediv_of_nonneg _ (by omega)]
 obtain ⟨k, rfl⟩ := h
 rw [Int.mul_ediv_cancel_left _ (by omega), Int.natAbs_mul, Nat.mul_div_cancel_left _ (by omega)]
theorem l8g {a b : Int} (h : ¬ (a = 0 /\ b = 0)) : ((Int.gcd (a.fdiv (Int.gcd a b : Int)) (b.fdiv (Int.gcd a b : Int)) : Nat) : Int) = 1 := by
 have hp : 0 < Int.gcd a b := by
  rw [Int.gcd_pos_iff]
  omega
 have e : Int.gcd (a.fdiv (Int.gcd a b : Int)) (b.fdiv (Int.gcd a b : Int)) = 1 := by
  show Nat.gcd _ _ = 1
  rw [d4g (by omega) (Int.gcd_dvd_left a b), d4g (by omega) (Int.gcd_dvd_right a b), Int.natAbs_natCast]
  exact Nat.coprime_div_gcd_div_gcd hp
 rw [e]
 rfl
theorem m8r {t b : Int} (hb : b ≠ 0) : t.fdiv (if b < 0 then -(Int.gcd t b : Int) else (Int.gcd t b : Int)) = (Rat.divInt t b).num := by
 rw [Rat.num_divInt, Int.gcd_comm b t]
 have hp : 0 < Int.gcd t b := Int.gcd_pos_of_ne_zero_right t hb
 obtain ⟨k, hk⟩ : (Int.gcd t b : Int) ∣ t := Int.gcd_dvd_left t b
 generalize hg : (Int.gcd t b : Int) = g at *
 have hg0 : 0 < g := by omega
 by_cases h : b < 0
 ·rw [if_pos h, Int.sign_eq_neg_one_of_neg h, hk]
  rw [show g * k = (-g) * (-k) by grind, Int.mul_fdiv_cancel_left _ (by omega), show -1 * (-g * -k) = g * (-k) by grind, Int.mul_ediv_cancel_left _ (by omega)]
 ·rw [if_neg h, Int.sign_eq_one_of_pos (by omega), hk, Int.mul_fdiv_cancel_left _ (by omega), Int.one_mul, Int.mul_ediv_cancel_left _ (by omega)]
theorem m8s {t b : Int} (hb : b ≠ 0) : b.fdiv (if b < 0 then -(Int.gcd t b : Int) else (Int.gcd t b : Int)) = ((Rat.divInt t b).den : Int) := by
 rw [Rat.den_divInt, if_neg hb, Int.gcd_comm b t]
 have hp : 0 < Int.gcd t b := Int.gcd_pos_of_ne_zero_right t hb
 obtain ⟨k, hk⟩ : (Int.gcd t b : Int) ∣ b := Int.gcd_dvd_right t b
 rw [Int.natCast_ediv]
 generalize hg : (Int.gcd t b : Int) = g at *
 have hg0 : 0 < g := by omega
 by_cases h : b < 0
 ·have e : ((b.natAbs : Nat) : Int) = -b := by omega
  rw [if_pos h, e, hk, show g * k = (-g) * (-k) by grind, Int.mul_fdiv_cancel_left _ (by omega), show -(-g * -k) = g * (-k) by grind, Int.mul_ediv_cancel_left _ (by omega)]
 ·have e : ((b.natAbs : Nat) : Int) = b := by omega
  rw [if_neg h, e, hk, Int.mul_fdiv_cancel_left _ (by omega), Int.mul_ediv_cancel_left _ (by omega)]
theorem k4t (q r : Rat) : Rat.divInt (q.num * (r.den : Int) + r.num * (q.den : Int)) ((q.den : Int) * (r.den : Int)) = q + r := by
 conv => rhs; rw [<- Rat.num_divInt_den q, <- Rat.num_divInt_den r]
 rw [Rat.divInt_add_divInt _ _ (by have := q.den_pos; omega) (by have := r.den_pos; omega)]
theorem j0w (q r : Rat) : Rat.divInt (q.num * r.num) ((q.den : Int) * (r.den : Int)) = q * r := by
 conv => rhs; rw [<- Rat.num_divInt_den q, <- Rat.num_divInt_den r]
 rw [Rat.divInt_mul_divInt]
theorem j8o (q : Rat) : (Rat.abs q).num = q.num.natAbs := by
 unfold Rat.abs
 split
 ·rename_i h
  have := Rat.num_nonneg.mpr h
  omega
 ·rename_i h
  have : ¬ 0 <= q.num := fun z => h (Rat.num_nonneg.mp z)
  show -q.num = _
  omega
theorem j8p (q : Rat) : (Rat.abs q).den = q.den := by
 unfold Rat.abs
 split <;> rfl
theorem m8t {t b : Int} (hb : b ≠ 0) : (Rat.divInt t b).num.natAbs <= t.natAbs := by
 rw [Rat.num_divInt]
 have e : (b.sign * t).natAbs = t.natAbs := by
  rw [Int.natAbs_mul, Int.natAbs_sign_of_ne_zero hb, Nat.one_mul]
 rw [<- e]
 exact Int.natAbs_ediv_le_natAbs _ _
theorem m8u {t b : Int} (hb : b ≠ 0) : (Rat.divInt t b).den <= b.natAbs := by
 rw [Rat.den_divInt, if_neg hb]
 exact Nat.div_le_self _ _
theorem i0u (T : Tx K mg A) : a1s P A.wd K mg base CX0 1 A.c0s A.f3q ["one", "other"] j7x := by
 refine T.d1p.ok c3u (fun vs H Q E h => ?_) (fun cdv A' outer s H vs Q E hr h => ?_)
 ·obtain ⟨_, _, rfl, _⟩ := g6p (by unfold j7x at h; exact h)
  rfl
 ·obtain ⟨a, b, rfl, q⟩ := g6p (by unfold j7x at h; exact h)
  have q : Q (.int (Int.gcd a b)) H := q
  have hu := hr.units
  refine ⟨_, (a0i (a1j (i := 2) c3u.nd rfl (Or.inl rfl) (a1p c0k (by rfl) T.g6r boot_abs (a0g (pvF 0) a0j)))
   (a0i (a1j (i := 3) c3u.nd rfl (Or.inl rfl) (a1p c0k (by rfl) T.g6r boot_abs (a0g (pvF 1) a0j)))
   (a0i (h0q PassesOwn.never (a2l (c7p hu) (pvF 3) a0k (a2v _))
   (a0i (a1j (i := 4) c3u.nd rfl (Or.inl rfl) (a1i a7o (pvF 2) (pvF 3)))
   (a0i (a1j (i := 2) c3u.nd rfl (Or.inl rfl) (pvF 3))
   (a0l (a1j (i := 3) c3u.nd rfl (Or.inl rfl) (pvF 4))))))
   (a0l (a1k (pvF 2)))))), ?_⟩
  walk_at "rd"
  refine h0r (fun m σ H1 => ∃ l r z, σ = [some (.int a), some (.int b), some (.int l), some (.int r), z] /\ H1 = H /\ 0 <= l /\ 0 <= r /\ m = r.toNat /\ Int.gcd l r = Int.gcd a b) _
   ⟨_, _, _, rfl, rfl, by omega, by omega, rfl, h2c a b⟩ ?_
  rintro m σ H1 ⟨l, r, z, rfl, rfl, hl, hr', rfl, hg⟩
  walk_at "rd"
  split
  ·rename_i h
   have hp : 0 < r := by omega
   have f := l4m hl hp
   exact ⟨h, _, (by omega : (l.fmod r).toNat < r.toNat), _, _, _, ⟨rfl, rfl, rfl⟩, hr', f.1, rfl, (k4r hl hp).trans hg⟩
  ·rename_i h
   obtain rfl : r = 0 := by omega
   rw [<- hg, gcd_zero hl] at q
   exact q
theorem j8q (T : Tx K mg A) : a1s P A.wd K mg base CX0 2 A.b8l A.f5r ["one", "other"] m2s := by
 have h2d : a1s P A.wd K mg base CX0 1 A.c0s A.f3q ["one", "other"] j7x := i0u T
 refine T.d1q.ok j7n (fun vs H Q E h => ?_) (fun cdv A' outer s H vs Q E hr h => ?_)
 ·obtain ⟨_, _, rfl, _⟩ := g6p (by unfold m2s at h; exact h)
  rfl
 ·obtain ⟨a, b, rfl, ⟨ha, hb, q⟩⟩ := g6p (by unfold m2s at h; exact h)
  have hu := hr.units
  have g2y : a2q 1 _ := hr.mono (by decide)
  refine ⟨_, (a0i (a6k (pw_or (a2l (c4h hu) (pvF 0) a0k (a2v _)) (pw_or1 (a2l (c4h hu) (pvF 1) a0k (a2v _)))).pt
   (a0l (a1k a0k))
   a2m)
   (a0l (a1k (a1i a3l (a1i a4n (a1p c0k (by rfl) T.g6r boot_abs (a0g (pvF 0) a0j)) (a0r h2d g2y (by rfl) T.j0n T.d1p.kp T.g0n .nil a0p (a0g (pvF 0) (a0g (pvF 1) a0j)))) (a1p c0k (by rfl) T.g6r boot_abs (a0g (pvF 1) a0j)))))), ?_⟩
  walk_at "rd"
  split
  ·rename_i h
   rw [lcm_zero h] at q
   exact q
  ·rename_i h
   simp only [not_or] at h
   have hg := k4s (b := b) h.1 ha
   have hn : (Int.gcd a b : Int) ≠ 0 := by
    have := Int.gcd_pos_of_ne_zero_left b h.1
    omega
   refine ⟨⟨hn, Nat.le_trans hg (by decide)⟩, ?_, ?_⟩
   ·exact IntMulOk.of_le (intBits_fdiv_le (intBits_natAbs_le ha)) (intBits_natAbs_le hb) (by decide)
   ·rw [m8q]
    exact q
theorem k4u {t b : Int} {n : Nat} (hb : b ≠ 0) (h : intBits t <= n) : intBits (Rat.divInt t b).num <= n := intBits_le_of_natAbs (m8t hb) h
theorem k4v {t b : Int} {n : Nat} (hb : b ≠ 0) (h : intBits b <= n) : intBits ((Rat.divInt t b).den : Int) <= n := by
 refine intBits_le_of_natAbs ?_ h
 rw [Int.natAbs_natCast]
 exact m8u hb
theorem j8r (T : Tx K mg A) : a1s P A.wd K mg base CX0 1 A.b8j A.f5p ["value"] m2t := by
 refine T.c3w.ok j7l (fun vs H Q E h => ?_) (fun cdv A' outer s H vs Q E hr h => ?_)
 ·obtain ⟨_, rfl, _⟩ := m5d (by unfold m2t at h; exact h)
  rfl
 ·obtain ⟨i, rfl, q⟩ := m5d (by unfold m2t at h; exact h)
  have hu := hr.units
  refine ⟨_, (a0l (a1k (h0t (a1p (b9j .int) (by rfl) T.a3k boot_isinstance (a0g (pvF 0) (a0g (c8y (v := .ty "int") (u := .type "int") (by rfl) T.h6o rfl rfl) a0j))) (k3x (l2l (a1p (b9j .bl) (by rfl) T.a3k boot_isinstance (a0g (pvF 0) (a0g (c8y (v := .ty "bool") (u := .type "bool") (by rfl) T.i0s rfl rfl) a0j)))))))), ?_⟩
  walk_at "rd"
  exact q
theorem f6y (T : Tx K mg A) : a1s P A.wd K mg base CX0 2 A.b8m A.f5s ["top", "bottom"] l3t := by
 have i0v : a1s P A.wd K mg base CX0 1 _ _ _ _ := j8r T
 have h2d : a1s P A.wd K mg base CX0 1 _ _ _ _ := i0u T
 refine T.b8v.ok f5o (fun vs H Q E h => ?_) (fun cdv A' outer s H vs Q E hr h => ?_)
 ·obtain ⟨_, _, rfl, _⟩ := g6p (by unfold l3t at h; exact h)
  rfl
 ·obtain ⟨t, b, rfl, ⟨hb, h1, h2, k⟩⟩ := g6p (by unfold l3t at h; exact h)
  have hu := hr.units
  have h2e : a2q 1 _ := hr.mono (by decide)
  have g2y : a2q 1 _ := hr.mono (by decide)
  refine ⟨_, (a0i (a6k (pw_or (c0i (a7j (a0r i0v h2e (by rfl) T.i0p T.c3w.kp T.f3r .nil a0p (a0g (pvF 0) a0j)))) (pw_or1 (c0i (a7j (a0r i0v h2e (by rfl) T.i0p T.c3w.kp T.f3r .nil a0p (a0g (pvF 1) a0j)))))).pt
   (a0l a6h)
   a2m)
   (a0i (a6k (a2l (c4h hu) (pvF 1) a0k (a2v _))
   (a0l a6h)
   a2m)
   (a0i (a1j (i := 2) f5o.nd rfl (Or.inl rfl) (a0r h2d g2y (by rfl) T.j0n T.d1p.kp T.g0n .nil a0p (a0g (pvF 0) (a0g (pvF 1) a0j))))
   (b5o (a6k (a2l of_lt (pvF 1) a0k (a2v _))
   (a0l (a1j (i := 2) f5o.nd rfl (Or.inl rfl) (l1r i9r (pvF 2))))
   a2m)
   (a0l (a1k (a8w (a0g (a1i a4n (pvF 0) (pvF 2)) (a0g (a1i a4n (pvF 1) (pvF 2)) a0j))))))))), ?_⟩
  walk_at "rd"
  rw [if_neg hb]
  refine ⟨fun σ' H' => σ' = [some (.int t), some (.int b), some (.int (if b < 0 then -(Int.gcd t b : Int) else (Int.gcd t b : Int)))] /\ H' = H, ?_, ?_⟩
  ·walk_at "rd"
   split
   ·rfl
   ·rfl
  ·rintro σ' H' ⟨rfl, rfl⟩
   have hg : intBits (Int.gcd t b : Int) <= 4000 := by
    rw [Int.gcd_comm]
    exact k4s hb h2
   have hp : 0 < Int.gcd t b := Int.gcd_pos_of_ne_zero_right t hb
   have hc : CFd t (if b < 0 then -(Int.gcd t b : Int) else (Int.gcd t b : Int)) := by
    split
    ·exact ⟨by omega, Nat.le_trans (intBits_neg_le hg) (by decide)⟩
    ·exact ⟨by omega, Nat.le_trans hg (by decide)⟩
   walk_at "rd"
   refine ⟨hc, hc, fun p H1 n1 S1 h1 => k _ _ ⟨p, rfl, n1, S1, ?_⟩⟩
   rw [h1, m8r hb, m8s hb]
   rfl
theorem j0x {n : Nat} (h : n < 10 ^ 9) : n.log2 < 1920 := by
 rcases Nat.eq_zero_or_pos n with z | z
 ·rw [z]; decide
 ·rw [Nat.log2_lt (by omega)]
  exact Nat.lt_of_lt_of_le h (Nat.le_trans (by decide : 10 ^ 9 <= 2 ^ 30) (Nat.pow_le_pow_right (by decide) (by decide)))
theorem i0w {t : Int} (h : t.natAbs < 10 ^ 9) : intBits t <= 4000 := by
 refine Nat.le_trans (intBits_le_iff.mpr (Nat.lt_of_lt_of_le h (by decide : 10 ^ 9 <= 2 ^ 30))) (by decide)
theorem i0x (T : Tx K mg A) : a1s P A.wd K mg base CX0 1 A.b0y A.d2p ["text"] m2u := by
 refine T.b4u.ok g0j (fun vs H Q E h => ?_) (fun cdv A' outer s H vs Q E hr h => ?_)
 ·obtain ⟨_, rfl, _⟩ := k4n (by unfold m2u at h; exact h)
  rfl
 ·obtain ⟨x, rfl, q⟩ := k4n (by unfold m2u at h; exact h)
  have q : Q (.bl (l2q (sg x))) H := q
  have hu := hr.units
  refine ⟨_, (a0i (b0r PassesOwn.never rfl (m7j (pvF 0)) (a5g (i := 1) g0j.nd rfl (Or.inl rfl))
   (a0l (a6k (a2l l2o (pvF 1) (b0p (v := .str "0123456789") (by rfl) T.d2h T.k6w) (by rfl))
   (a0l (a1k h0f))
   a2m)))
   (a0l (a1k (h0i (c7p hu) (pvF 0) a3w (a2v _))))), ?_⟩
  walk_at "rd"
  refine l7n (fun i σ H1 => H1 = H /\ (∃ z, σ = [some (.str x), z]) /\ ((sg x).take i).all (fun c => decide (48 <= c) && decide (c <= 57)) = true) ⟨rfl, ⟨_, rfl⟩, rfl⟩ ?_ ?_
  ·rintro i c σ H1 hc ⟨rfl, ⟨z, rfl⟩, ha⟩
   walk_at "rd"
   have hc' : (sg x)[i]? = some c := by
    unfold sg
    rw [Array.getElem?_toList]
    exact hc
   rw [m1z]
   split
   ·rename_i hb
    have : l2q (sg x) = false := by
     unfold l2q
     rw [show (sg x).all (fun c => decide (48 <= c) && decide (c <= 57)) = false from ?_, Bool.false_and]
     rw [List.all_eq_false]
     exact ⟨c, List.mem_of_getElem? hc', by rw [hb]; decide⟩
    rw [this] at q
    exact q
   ·rename_i hb
    refine ⟨⟨_, rfl⟩, ?_⟩
    rw [List.take_add_one, hc', List.all_append, ha]
    simpa using hb
  ·rintro σ H1 ⟨rfl, ⟨z, rfl⟩, ha⟩
   walk_at "rd"
   have hl : x.cps.size = (sg x).length := by simp
   rw [hl, List.take_length] at ha
   have e : l2q (sg x) = !decide (x = Str.ofString "") := by
    unfold l2q
    rw [ha, Bool.true_and]
    congr 1
    rw [Bool.eq_iff_iff, decide_eq_true_eq, List.isEmpty_iff]
    exact ⟨fun h => c7r (h.trans (by decide +kernel)), fun h => by rw [h]; decide +kernel⟩
   rw [e] at q
   exact q
theorem l8h (T : Tx K mg A) : a1s P A.wd K mg base CX0 1 A.a4o A.b3n ["one"] j7y := by
 refine T.a2z.ok a6n (fun vs H Q E h => ?_) (fun cdv A' outer s H vs Q E hr h => ?_)
 ·obtain ⟨_, rfl, _⟩ := b7i (by unfold j7y at h; exact h)
  rfl
 ·obtain ⟨p, rfl, ⟨t, b, hp, l1, l2, q⟩⟩ := b7i (by unfold j7y at h; exact h)
  have hu := hr.units
  refine ⟨_, (a0i (a1j (i := 1) a6n.nd rfl (Or.inl rfl) (a1o a3q (pvF 0) a0k (fun _ _ => rfl)))
   (a0i (a1j (i := 2) a6n.nd rfl (Or.inl rfl) (a1o a3q (pvF 0) a0k (fun _ _ => rfl)))
   (a0l (a1k (b5r (a3r (c2g (pvF 1)) (a3r a3w (a3r (c2g (pvF 2)) g0e)))))))), ?_⟩
  walk_at "rd*"
  have e0 : Str.empty.length = 0 := rfl
  have e1 : (Str.ofString "/").length = 1 := by decide +kernel
  have e2 : (Str.ofString (toString t)).length = (txt t).length := by rw [<- d8j, d6w]
  have e3 : (Str.ofString (toString b)).length = (txt b).length := by rw [<- d8j, d6w]
  have f2 := j7f t
  have f3 := j7f b
  have hs : sizeLine = 16777216 := sizeLine_eq
  simp only [strLen_append, e0, e1, e2, e3]
  refine ⟨by omega, by omega, by omega, by omega, q _ ?_⟩
  rw [a3z, a3z, a3z, d6w, d6w]
  unfold l7p
  have e4 : sg Str.empty = [] := rfl
  have e5 : sg (Str.ofString "/") = [47] := by decide +kernel
  rw [e4, e5]
  simp
theorem m3f (T : Tx K mg A) : a1s P A.wd K mg base CX0 3 A.a5y A.c1k ["text"] l3u := by
 have f0j : a1s P A.wd K mg base CX0 1 _ _ _ _ := i0x T
 have a3g : a1s P A.wd K mg base CX0 1 _ _ _ _ := l8h T
 have d2j : a1s P A.wd K mg base CX0 2 _ _ _ _ := f6y T
 refine T.b1q.ok b0g (fun vs H Q E h => ?_) (fun cdv A' outer s H vs Q E hr h => ?_)
 ·obtain ⟨_, rfl, _⟩ := k4n (by unfold l3u at h; exact h)
  rfl
 ·obtain ⟨x, rfl, ⟨t, b, g, k⟩⟩ := k4n (by unfold l3u at h; exact h)
  have hu := hr.units
  have d4h : a2q 1 _ := hr.mono (by decide)
  have a2u : a2q 1 _ := hr.mono (by decide)
  have c5k : a2q 2 _ := hr.mono (by decide)
  obtain ⟨hx, hb, hg, l1, l2⟩ := g
  have hb0 : b ≠ 0 := by omega
  have tb : txt b = dg b.natAbs := if_neg (by omega)
  have sl : Str.ofString "/" = ⟨#[47]⟩ := by decide +kernel
  have mi : Str.ofString "-" = ⟨#[45]⟩ := by decide +kernel
  have sp := l7o (x := x) (c := 47) (by decide) hx (f4l (by decide) (by decide)) (f4l (by decide) (by decide))
  have hs : sizeLine = 16777216 := sizeLine_eq
  have q1 := m7s t
  have xl : x.length = (txt t).length + ((txt b).length + 1) := by rw [<- d8j, hx]; simp [l7p]
  rw [tb] at xl
  obtain ⟨h0, e0⟩ : ∃ h0 : Str, h0 = ⟨(txt t).toArray⟩ := ⟨_, rfl⟩
  obtain ⟨h1, e1⟩ : ∃ h1 : Str, h1 = ⟨(txt b).toArray⟩ := ⟨_, rfl⟩
  have s0 : sg h0 = txt t := by rw [e0]
  have s1 : sg h1 = txt b := by rw [e1]
  have n0 : h0.length = (txt t).length := by rw [<- d8j, s0]
  have n1 : h1.length = (txt b).length := by rw [<- d8j, s1]
  rw [<- e0, <- e1] at sp
  have sw := m7t s0
  have i0 := g1x s0 (by omega)
  have i1 := g1x s1 (by rw [tb] at n1; omega)
  have r0 : Rat.divInt t b = ⟨t, b.toNat, by omega, by
   show Nat.gcd t.natAbs b.toNat = 1
   rw [<- hg]
   unfold Int.gcd
   congr 1
   omega⟩ := by
   rw [Rat.mk_eq_divInt]
   congr 1
   omega
  refine ⟨_, (a0i (a6k (c0i (a7j (a1p (b9j .str) (by rfl) T.a3k boot_isinstance (a0g (pvF 0) (a0g (c8y (v := .ty "str") (u := .type "str") (by rfl) T.f4j rfl rfl) a0j)))))
   (a0l a6h)
   a2m)
   (a0i (a1j (i := 1) b0g.nd rfl (Or.inl rfl) (b5q c0l PySem.F.plainAttrs_str PySem.F.slot_str_split PySem.F.type_str_split g9x (pvF 0) (a0g a3w a0j)))
   (a0i (a6k (a2l (c7p hu) (a1p a2r (by rfl) T.b3i boot_len (a0g (pvF 1) a0j)) a0k (a2v _))
   (a0l a6h)
   a2m)
   (b5o (a1j (i := 2) b0g.nd rfl (Or.inl rfl) (g9w (a7j (b5q c0l PySem.F.plainAttrs_str PySem.F.slot_str_startswith PySem.F.type_str_startswith g0c (a1o a3q (pvF 1) a0k (fun _ _ => rfl)) (a0g a3w a0j))) (a5m j7d (a1o a3q (pvF 1) a0k (fun _ _ => rfl)) (a3y a0k) b2z) (a1o a3q (pvF 1) a0k (fun _ _ => rfl))))
   (a0i (b0r PassesOwn.never rfl (a5n (c8z (a0g (pvF 2) (a0g (a1o a3q (pvF 1) a0k (fun _ _ => rfl)) a0j)))) (a5g (i := 3) b0g.nd rfl (Or.inl rfl))
   (a0l (a6k (pw_or (c0i (a7j (a0r f0j d4h (by rfl) T.g5p T.b4u.kp T.c7t .nil a0p (a0g (pvF 3) a0j)))) (pw_or1 (a2l i9q (a1p a2r (by rfl) T.b3i boot_len (a0g (pvF 3) a0j)) (b0p (v := .int 9) (by rfl) T.a4h T.d7v) (a2v _)))).pt
   (a0l a6h)
   a2m)))
   (a0i (a6k (a2l (c4h hu) (a2k g0d (by rfl) T.h6o boot_int (a0g (a1o a3q (pvF 1) a0k (fun _ _ => rfl)) a0j)) a0k (a2v _))
   (a0l a6h)
   a2m)
   (a0i (a1j (i := 4) b0g.nd rfl (Or.inl rfl) (a0r d2j c5k (by rfl) T.g2l T.b8v.kp T.d1r .nil a0p (a0g (a2k g0d (by rfl) T.h6o boot_int (a0g (a1o a3q (pvF 1) a0k (fun _ _ => rfl)) a0j)) (a0g (a2k g0d (by rfl) T.h6o boot_int (a0g (a1o a3q (pvF 1) a0k (fun _ _ => rfl)) a0j)) a0j))))
   (a0i (a6k (a2l (c7p hu) (a0r a3g a2u (by rfl) T.a8h T.a2z.kp T.a4t .nil a0p (a0g (pvF 4) a0j)) (pvF 0) (a2v _))
   (a0l a6h)
   a2m)
   (a0l (a1k (pvF 4))))))))))), ?_⟩
  rw [sl, mi]
  have hx' : id (sg x = l7p t b) := hx
  clear e0 e1 hx sl mi
  have d1 : ((⟨#[47]⟩ : Str).length == 0) = false := rfl
  have d2 : x.length <= sizeLine := by omega
  have d3 : 2 <= sizeLine := by omega
  have d4 : h0.length <= sizeLine := by omega
  have d5 : h1.length <= sizeLine := by rw [tb] at n1; omega
  have N0 : h0.length <= 10 := by omega
  have N1 : h1.length <= 9 := by rw [tb] at n1; omega
  clear xl n0 n1 q1 hs
  walk_at "rd*"
  intro p H1 n1' S1 h1'
  walk_at "rd*"
  rw [if_neg (by decide)]
  refine ⟨fun σ' H' => ∃ top : Str, sg top = dg t.natAbs /\ σ' = [some (.str x), some (.ref p), some (.str top), none, none] /\ H' = H1, ?_, ?_⟩
  ·walk_at "rd*"
   split
   ·rename_i ht
    have z := m2a (x := h0) (i := 1) (by
     rw [<- d8j, s0]
     unfold txt
     rw [if_pos ht]
     simp)
    rw [show ((1 : Nat) : Int) = 1 from rfl] at z
    refine ⟨_, ?_, rfl⟩
    rw [z, s0]
    unfold txt
    rw [if_pos ht]
    rfl
   ·rename_i ht
    refine ⟨_, ?_, rfl⟩
    rw [s0]
    unfold txt
    rw [if_neg ht]
  ·rintro σ' H' ⟨top, st, rfl, rfl⟩
   walk_at "rd*"
   intro q H2 n2 S2 h2
   walk_at "rd*"
   have hp2 := S2 _ _ h1'
   refine ⟨⟨_, SqL.of h2⟩, ?_⟩
   have f0 : l2q (sg top) = true := by rw [st]; exact i2f.mpr ⟨f4k _, l2p _⟩
   have f1 : l2q (sg h1) = true := by rw [s1, tb]; exact i2f.mpr ⟨f4k _, l2p _⟩
   have m0 : top.length <= 9 := by rw [<- d8j, st]; exact l1
   have m1 : top.length <= sizeLine := Nat.le_trans m0 (by decide)
   refine b5n (xs := [.str top, .str h1]) (fun i σ H' => H' = H2 /\ ∃ z, σ = [some (.str x), some (.ref p), some (.str top), z, none]) ⟨rfl, _, rfl⟩ (fun i σ H' _ h => by rw [h.1]; exact SqL.of h2) ?_ ?_
   ·rintro i v σ H' hv ⟨rfl, z, rfl⟩
    match i, hv with
    | 0, hv =>
     cases hv
     walk_at "rd*"
     rw [st] at f0
     rw [f0, if_neg (by simp; omega)]
     exact ⟨_, rfl⟩
    | 1, hv =>
     cases hv
     walk_at "rd*"
     rw [s1, tb] at f1
     rw [f1, if_neg (by simp; omega)]
     exact ⟨_, rfl⟩
    | i + 2, hv => cases hv
   ·rintro σ H' ⟨rfl, z, rfl⟩
    walk_at "rd*"
    have v1 : t.natAbs < 10 ^ 9 := by
     have := m0j (f4k t.natAbs)
     rw [k4f] at this
     exact Nat.lt_of_lt_of_le this (Nat.pow_le_pow_right (by decide) l1)
    have v2 : b.natAbs < 10 ^ 9 := by
     have := m0j (f4k b.natAbs)
     rw [k4f] at this
     exact Nat.lt_of_lt_of_le this (Nat.pow_le_pow_right (by decide) l2)
    have g1 : t.natAbs.log2 < 1920 := j0x v1
    have g2 : b.natAbs.log2 < 1920 := j0x v2
    refine ⟨by omega, by omega, by omega, i0w v1, i0w v2, ?_⟩
    rw [r0]
    rintro _ H3 ⟨o, rfl, n3, S3, h3⟩
    replace h3 : H3 o = some (.tup [.int t, .int b]) := by
     rw [h3]
     unfold d7y
     show some (HO.tup [V.int t, V.int ((b.toNat : Nat) : Int)]) = _
     rw [Int.toNat_of_nonneg (by omega)]
    walk_at "rd*"
    refine ⟨t, b, ⟨rfl, rfl⟩, g1, g2, fun y hy => ?_⟩
    rw [if_neg (not_not_intro (c7r (hy.trans hx'.symm)))]
    refine k _ _ ⟨o, rfl, ?_, fun c u e => S3 _ _ (S2 _ _ (S1 _ _ e)), h3⟩
    cases e : H o with
    | none => rfl
    | some u =>
     have := S2 _ _ (S1 _ _ e)
     rw [n3] at this
     cases this
theorem l4n {x : Str} {n : Nat} (h : sg x = txt (n : Int)) : (Txt.startswith x ⟨#[48]⟩ && !decide (x = (⟨#[48]⟩ : Str))) = false := by
 have e : txt (n : Int) = dg n := if_neg (by omega)
 rw [e] at h
 rcases Nat.eq_zero_or_pos n with z | z
 ·subst z
  have : x = ⟨#[48]⟩ := c7r (by rw [h]; rfl)
  rw [this]
  simp
 ·obtain ⟨c, r, e1, e2⟩ := m1y z
  rw [m0k, h, e1]
  simp [e2]
theorem m8v (T : Tx K mg A) : a1s P A.wd K mg base CX0 2 A.b8k A.f5q ["text"] m2v := by
 have f0j : a1s P A.wd K mg base CX0 1 _ _ _ _ := i0x T
 refine T.d1o.ok j7m (fun vs H Q E h => ?_) (fun cdv A' outer s H vs Q E hr h => ?_)
 ·obtain ⟨_, rfl, _⟩ := k4n (by unfold m2v at h; exact h)
  rfl
 ·obtain ⟨x, rfl, ⟨n, hx, hn, q⟩⟩ := k4n (by unfold m2v at h; exact h)
  have hu := hr.units
  have d4h : a2q 1 _ := hr.mono (by decide)
  have sl : Str.ofString "0" = ⟨#[48]⟩ := by decide +kernel
  refine ⟨_, (a0i (a6k (pw_or (c0i (a7j (a0r f0j d4h (by rfl) T.g5p T.b4u.kp T.c7t .nil a0p (a0g (pvF 0) a0j)))) (pw_or1 (a2l i9q (a1p a2r (by rfl) T.b3i boot_len (a0g (pvF 0) a0j)) (b0p (v := .int 13) (by rfl) T.a4g T.d7u) (a2v _)))).pt
   (a0l (a1k h0g))
   a2m)
   (a0i (a6k (pw_and (a7j (b5q c0l PySem.F.plainAttrs_str PySem.F.slot_str_startswith PySem.F.type_str_startswith g0c (pvF 0) (a0g a3w a0j))) (pw_and1 (a2l (c7p hu) (pvF 0) a3w (a2v _)))).pt
   (a0l (a1k h0g))
   a2m)
   (a0l (a1k (a2k g0d (by rfl) T.h6o boot_int (a0g (pvF 0) a0j)))))), ?_⟩
  rw [sl]
  walk_at "rd*"
  have e : txt (n : Int) = dg n := if_neg (by omega)
  have f : l2q (txt (n : Int)) = true := by rw [e]; exact i2f.mpr ⟨f4k _, l2p _⟩
  have lx : x.length <= 11 := by
   rw [<- d8j, hx, e]
   have a := l7w 8 n (by omega)
   omega
  have sw := l4n hx
  have hs : sizeLine = 16777216 := sizeLine_eq
  rw [f, if_neg (by decide)]
  refine ⟨by omega, ?_⟩
  rw [if_neg ?_]
  ·exact ⟨_, g1x hx (by omega), by omega, q⟩
  ·rintro (z | ⟨z1, z2⟩)
   ·omega
   ·rw [z1, Bool.true_and] at sw
    simp [z2] at sw
theorem k4w (x : Rat) : (x.den : Int) ≠ 0 := by
 have := x.den_pos
 omega
theorem i3s (x y : Rat) : (x.den : Int) * (y.den : Int) ≠ 0 := Int.mul_ne_zero (k4w x) (k4w y)
theorem m3g (T : Tx K mg A) : a1s P A.wd K mg base CX0 3 A.h1c A.j7s ["one", "other"] l3v := by
 have d2j : a1s P A.wd K mg base CX0 2 _ _ _ _ := f6y T
 refine T.j0o.ok m2o (fun vs H Q E h => ?_) (fun cdv A' outer s H vs Q E hr h => ?_)
 ·obtain ⟨_, _, rfl, _⟩ := c7o (by unfold l3v at h; exact h)
  rfl
 ·obtain ⟨p, q, rfl, ⟨x, y, ⟨hp, hq, b1, b2, b3, b4⟩, k⟩⟩ := c7o (by unfold l3v at h; exact h)
  have hu := hr.units
  have c5k : a2q 2 _ := hr.mono (by decide)
  unfold d7y at hp hq
  refine ⟨_, (a0l (a1k (a0r d2j c5k (by rfl) T.g2l T.b8v.kp T.d1r .nil a0p (a0g (a1i a2g (a1i a3l (a1o a3q (pvF 0) a0k (fun _ _ => rfl)) (a1o a3q (pvF 1) a0k (fun _ _ => rfl))) (a1i a3l (a1o a3q (pvF 1) a0k (fun _ _ => rfl)) (a1o a3q (pvF 0) a0k (fun _ _ => rfl)))) (a0g (a1i a3l (a1o a3q (pvF 0) a0k (fun _ _ => rfl)) (a1o a3q (pvF 1) a0k (fun _ _ => rfl))) a0j))))), ?_⟩
  walk_at "rd*"
  refine ⟨by walk_at "mul", by walk_at "mul", by walk_at "mul", i3s x y, by walk_at "le", by walk_at "le", ?_⟩
  rw [k4t]
  exact k
theorem m3h (T : Tx K mg A) : a1s P A.wd K mg base CX0 3 A.f5t A.i2v ["one", "other"] l3w := by
 have d2j : a1s P A.wd K mg base CX0 2 _ _ _ _ := f6y T
 refine T.g2m.ok l8c (fun vs H Q E h => ?_) (fun cdv A' outer s H vs Q E hr h => ?_)
 ·obtain ⟨_, _, rfl, _⟩ := c7o (by unfold l3w at h; exact h)
  rfl
 ·obtain ⟨p, q, rfl, ⟨x, y, ⟨hp, hq, b1, b2, b3, b4⟩, k⟩⟩ := c7o (by unfold l3w at h; exact h)
  have hu := hr.units
  have c5k : a2q 2 _ := hr.mono (by decide)
  unfold d7y at hp hq
  refine ⟨_, (a0l (a1k (a0r d2j c5k (by rfl) T.g2l T.b8v.kp T.d1r .nil a0p (a0g (a1i a3l (a1o a3q (pvF 0) a0k (fun _ _ => rfl)) (a1o a3q (pvF 1) a0k (fun _ _ => rfl))) (a0g (a1i a3l (a1o a3q (pvF 0) a0k (fun _ _ => rfl)) (a1o a3q (pvF 1) a0k (fun _ _ => rfl))) a0j))))), ?_⟩
  walk_at "rd*"
  refine ⟨by walk_at "mul", by walk_at "mul", i3s x y, by walk_at "le", by walk_at "le", ?_⟩
  rw [j0w]
  exact k
theorem m3i (T : Tx K mg A) : a1s P A.wd K mg base CX0 1 A.c4l A.g2a ["one"] l3x := by
 refine T.d9k.ok k6i (fun vs H Q E h => ?_) (fun cdv A' outer s H vs Q E hr h => ?_)
 ·obtain ⟨_, rfl, _⟩ := b7i (by unfold l3x at h; exact h)
  rfl
 ·obtain ⟨p, rfl, ⟨x, hp, k⟩⟩ := b7i (by unfold l3x at h; exact h)
  have hu := hr.units
  unfold d7y at hp
  refine ⟨_, (a0l (a1k (a8w (a0g (a1p c0k (by rfl) T.g6r boot_abs (a0g (a1o a3q (pvF 0) a0k (fun _ _ => rfl)) a0j)) (a0g (a1o a3q (pvF 0) a0k (fun _ _ => rfl)) a0j))))), ?_⟩
  walk_at "rd*"
  intro b H1 n1 S1 h1
  refine k _ _ ⟨b, rfl, n1, S1, ?_⟩
  rw [h1]
  unfold d7y
  rw [j8o, j8p]
theorem l8i (T : Tx K mg A) : a1s P A.wd K mg base CX0 1 A.b8n A.f5u ["one", "other"] j7z := by
 refine T.d1s.ok j7o (fun vs H Q E h => ?_) (fun cdv A' outer s H vs Q E hr h => ?_)
 ·obtain ⟨_, _, rfl, _⟩ := c7o (by unfold j7z at h; exact h)
  rfl
 ·obtain ⟨p, q, rfl, ⟨x, y, ⟨hp, hq, b1, b2, b3, b4⟩, k⟩⟩ := c7o (by unfold j7z at h; exact h)
  have hu := hr.units
  unfold d7y at hp hq
  refine ⟨_, (a0l (a1k (h0i of_lt (a1i a3l (a1o a3q (pvF 0) a0k (fun _ _ => rfl)) (a1o a3q (pvF 1) a0k (fun _ _ => rfl))) (a1i a3l (a1o a3q (pvF 1) a0k (fun _ _ => rfl)) (a1o a3q (pvF 0) a0k (fun _ _ => rfl))) (a2v _)))), ?_⟩
  walk_at "rd*"
  exact ⟨by walk_at "mul", by walk_at "mul"⟩
theorem m0v {p q : Int} (h : 1 <= q) (g : Int.gcd p q = 1) : ∃ y : Rat, y.num = p /\ (y.den : Int) = q := by
 refine ⟨⟨p, q.toNat, by omega, ?_⟩, rfl, ?_⟩
 ·show Nat.gcd p.natAbs q.toNat = 1
  rw [show q.toNat = q.natAbs by omega]
  exact g
 ·show ((q.toNat : Nat) : Int) = q
  omega
theorem j0y {x y : Rat} {a b c d : Nat} (h1 : intBits x.num <= a) (h2 : intBits (x.den : Int) <= b) (h3 : intBits y.num <= c) (h4 : intBits (y.den : Int) <= d) : intBits (x * y).num <= a + c /\ intBits ((x * y).den : Int) <= b + d := by
 rw [<- j0w]
 have ne : (x.den : Int) * (y.den : Int) ≠ 0 := i3s x y
 exact ⟨k4u ne (intBits_mul_le h1 h3), k4v ne (intBits_mul_le h2 h4)⟩
theorem k6z {x y : Rat} {a : Nat} (h1 : intBits x.num <= a) (h2 : intBits (x.den : Int) <= a) (h3 : intBits y.num <= a) (h4 : intBits (y.den : Int) <= a) : intBits (x + y).num <= a + a + 1 /\ intBits ((x + y).den : Int) <= a + a := by
 rw [<- k4t]
 have ne : (x.den : Int) * (y.den : Int) ≠ 0 := i3s x y
 refine ⟨k4u ne ?_, k4v ne (intBits_mul_le h2 h4)⟩
 have := intBits_add_le (intBits_mul_le h1 h4) (intBits_mul_le h3 h2)
 omega
theorem k4p.rts {l : Addr} {H : Hp} {qs : List Addr} {ss : List Rat} (h : k4p l H qs ss) : Rts H qs ss := ⟨h.1, fun i q s e1 e2 => (h.2 i q s e1 e2).2⟩
theorem Rts.same {H H' : Hp} {qs : List Addr} {ss : List Rat} (h : Rts H qs ss) (S : Same H H') : Rts H' qs ss := ⟨h.1, fun i q s e1 e2 => S _ _ (h.2 i q s e1 e2)⟩
theorem Rts.g0u {o : Addr} {H H' : Hp} {qs : List Addr} {ss : List Rat} {C dx : Addr} {fs : List (Str × V)} (h : Rts H qs ss) (ho : H o = some (.ins C dx fs)) (S : a6j o H H') : Rts H' qs ss :=
 ⟨h.1, fun i q s e1 e2 => S _ _ (fun z => by have := h.2 i q s e1 e2; rw [z, ho] at this; cases this) (h.2 i q s e1 e2)⟩
theorem k4p.g0u {l : Addr} {H H' : Hp} {qs : List Addr} {ss : List Rat} (h : k4p l H qs ss) (S : a6j l H H') : k4p l H' qs ss := ⟨h.1, fun i q s e1 e2 => ⟨(h.2 i q s e1 e2).1, S _ _ (h.2 i q s e1 e2).1 (h.2 i q s e1 e2).2⟩⟩
theorem k4p.same {l : Addr} {H H' : Hp} {qs : List Addr} {ss : List Rat} (h : k4p l H qs ss) (S : Same H H') : k4p l H' qs ss := h.g0u fun b o _ e => S b o e
theorem k4p.nil {l : Addr} {H : Hp} : k4p l H [] [] := ⟨rfl, fun i q s e => by simp at e⟩
theorem k4p.snoc {l : Addr} {H : Hp} {qs : List Addr} {ss : List Rat} {q : Addr} {s : Rat} (h : k4p l H qs ss) (hl : q ≠ l) (hq : H q = some (.tup (d7y s))) : k4p l H (qs ++ [q]) (ss ++ [s]) := by
 refine ⟨by rw [List.length_append, List.length_append, h.1]; rfl, fun i q' s' e1 e2 => ?_⟩
 by_cases hi : i < qs.length
 ·rw [List.getElem?_append_left hi] at e1
  rw [List.getElem?_append_left (by rw [<- h.1]; exact hi)] at e2
  exact h.2 i q' s' e1 e2
 ·rw [List.getElem?_append_right (by omega)] at e1
  rw [List.getElem?_append_right (by rw [<- h.1]; omega)] at e2
  rw [<- h.1] at e2
  cases hz : i - qs.length with
  | zero =>
   rw [hz] at e1 e2
   simp at e1 e2
   subst e1 e2
   exact ⟨hl, hq⟩
  | succ n =>
   rw [hz] at e1
   simp at e1
theorem Rts.get {H : Hp} {qs : List Addr} {ss : List Rat} (h : Rts H qs ss) {i : Nat} {v : V} (e : (qs.map V.ref)[i]? = some v) : ∃ q s, v = .ref q /\ ss[i]? = some s /\ H q = some (.tup (d7y s)) := by
 rw [List.getElem?_map] at e
 obtain ⟨q, hq, rfl⟩ := Option.map_eq_some_iff.mp e
 have hi : i < qs.length := (List.getElem?_eq_some_iff.mp hq).1
 have hr : ss[i]? = some (ss[i]'(by rw [<- h.1]; exact hi)) := List.getElem?_eq_getElem _
 exact ⟨q, _, rfl, hr, h.2 i q _ hq hr⟩
theorem Crn.same {H H' : Hp} {ps : List Addr} {cs : List (Int × Rat)} (h : Crn H ps cs) (S : Same H H') : Crn H' ps cs := ⟨h.1, fun i p c e1 e2 => (h.2 i p c e1 e2).elim fun g z => ⟨g, S _ _ z.1, S _ _ z.2⟩⟩
theorem Crn.g0u {o : Addr} {H H' : Hp} {ps : List Addr} {cs : List (Int × Rat)} {C dx : Addr} {fs : List (Str × V)} (h : Crn H ps cs) (ho : H o = some (.ins C dx fs)) (S : a6j o H H') : Crn H' ps cs :=
 ⟨h.1, fun i p c e1 e2 => (h.2 i p c e1 e2).elim fun g z => ⟨g, S _ _ (fun e => by have := z.1; rw [e, ho] at this; cases this) z.1, S _ _ (fun e => by have := z.2; rw [e, ho] at this; cases this) z.2⟩⟩
theorem Crn.get {H : Hp} {ps : List Addr} {cs : List (Int × Rat)} (h : Crn H ps cs) {i : Nat} {v : V} (e : (ps.map V.ref)[i]? = some v) : ∃ p c g, v = .ref p /\ cs[i]? = some c /\ H p = some (.tup [.int c.1, .ref g]) /\ H g = some (.tup (d7y c.2)) := by
 rw [List.getElem?_map] at e
 obtain ⟨p, hp, rfl⟩ := Option.map_eq_some_iff.mp e
 have hi : i < ps.length := (List.getElem?_eq_some_iff.mp hp).1
 have hr : cs[i]? = some (cs[i]'(by rw [<- h.1]; exact hi)) := List.getElem?_eq_getElem _
 obtain ⟨g, h1, h2⟩ := h.2 i p _ hp hr
 exact ⟨p, _, g, rfl, hr, h1, h2⟩
theorem j0z (bs : List Int) (b : Int) : l1g (bs ++ [b]) = (Int.lcm (l1g bs) b : Int) := by
 unfold l1g
 rw [List.foldl_append]
 rfl
theorem n2s {α : Type} {p : List α -> Prop} (h0 : p []) (hs : ∀ l x, p l -> p (l ++ [x])) (l : List α) : p l := by
 have : ∀ l : List α, p l.reverse := fun l => by
  induction l with
  | nil => exact h0
  | cons x l ih => rw [List.reverse_cons]; exact hs _ _ ih
 have z := this l.reverse
 rwa [List.reverse_reverse] at z
theorem l4o {a b : Int} {m n : Nat} (h : ¬ (a = 0 /\ b = 0)) (ha : intBits a <= m) (hb : intBits b <= n) : intBits (Int.lcm a b : Int) <= m + n := by
 refine intBits_le_of_natAbs ?_ (intBits_mul_le ha hb)
 have hp : 0 < Int.gcd a b := by
  rw [Int.gcd_pos_iff]
  omega
 rw [Int.natAbs_natCast, Int.natAbs_mul, <- Int.gcd_mul_lcm]
 exact Nat.le_mul_of_pos_left _ hp
theorem l4p (bs : List Int) : (∀ b ∈ bs, 1 <= b /\ intBits b <= 64) -> 1 <= l1g bs /\ (∀ b ∈ bs, b ∣ l1g bs) /\ intBits (l1g bs) <= 1 + 64 * bs.length := by
 induction bs using n2s with
 | h0 => exact fun _ => ⟨by decide, (fun b hb => by cases hb), by decide⟩
 | hs l x ih =>
  intro h
  have i := ih fun b hb => h b (List.mem_append_left _ hb)
  have hx := h x (List.mem_append_right _ (List.mem_singleton.mpr rfl))
  rw [j0z, List.length_append, List.length_singleton]
  have lp : 0 < Int.lcm (l1g l) x := Int.lcm_pos (by omega) (by omega)
  refine ⟨by omega, fun b hb => ?_, Nat.le_trans (l4o (by omega) i.2.2 hx.2) (by omega)⟩
  rcases List.mem_append.mp hb with e | e
  ·exact Int.dvd_trans (i.2.1 b e) (Int.dvd_lcm_left _ _)
  ·rw [List.mem_singleton.mp e]
   exact Int.dvd_lcm_right _ _
theorem l4q (T : Tx K mg A) : a1s P A.wd K mg base CX0 3 A.a6g A.c1m ["bottoms"] i3h := by
 have k7a : a1s P A.wd K mg base CX0 2 _ _ _ _ := j8q T
 refine T.b1t.ok b3m (fun vs H Q E h => ?_) (fun cdv A' outer s H vs Q E hr h => ?_)
 ·obtain ⟨_, rfl, _⟩ := b7i (by unfold i3h at h; exact h)
  rfl
 ·obtain ⟨p, rfl, ⟨bs, hp, O, L, q⟩⟩ := b7i (by unfold i3h at h; exact h)
  have hu := hr.units
  have j8s : a2q 2 _ := hr.mono (by decide)
  refine ⟨_, (a0i (a1j (i := 1) b3m.nd rfl (Or.inl rfl) a0k)
   (a0i (b0r PassesOwn.never rfl (a5n (pvF 0)) (a5g (i := 2) b3m.nd rfl (Or.inl rfl))
   (a0l (a1j (i := 1) b3m.nd rfl (Or.inl rfl) (a0r k7a j8s (by rfl) T.k6p T.d1q.kp T.g2k .nil a0p (a0g (pvF 1) (a0g (pvF 2) a0j))))))
   (a0l (a1k (pvF 1))))), ?_⟩
  walk_at "rd"
  refine ⟨⟨_, SqL.of hp⟩, ?_⟩
  obtain ⟨Pv, pin, pout⟩ := f5n (fun i σ H' => ∃ (v2 : Option V), σ = [some (.ref p), some (.int (l1g (bs.take i))), v2] /\ H' = H)
  refine b5n (xs := bs.map V.int) Pv (pin _ _ _ ⟨_, rfl, rfl⟩) ?_ ?_ ?_
  ·intro i σ H2 hi hp'
   obtain ⟨v2, rfl, rfl⟩ := pout _ _ _ hp'
   exact SqL.of hp
  ·intro i v σ H2 hv hp'
   obtain ⟨v2, rfl, rfl⟩ := pout _ _ _ hp'
   rw [List.getElem?_map] at hv
   obtain ⟨b, hb, rfl⟩ := Option.map_eq_some_iff.mp hv
   have Ob := O b (List.mem_of_getElem? hb)
   have lk := l4p (bs.take i) fun b hb => O b (List.mem_of_mem_take hb)
   have hl : (bs.take i).length <= 24 := by rw [List.length_take]; omega
   have et : bs.take (i + 1) = bs.take i ++ [b] := by rw [List.take_add_one, hb]; rfl
   walk_at "rd"
   refine ⟨by omega, by omega, pin _ _ _ ⟨some (.int b), ?_, rfl⟩⟩
   rw [et, j0z]
  ·intro σ H2 hp'
   obtain ⟨v2, rfl, rfl⟩ := pout _ _ _ hp'
   rw [List.length_map, List.take_of_length_le (Nat.le_refl _)]
   walk_at "rd"
   exact q
theorem l8j (T : Tx K mg A) : a1s P A.wd K mg base CX0 1 A.h1e A.j7t ["one", "bottom"] j8a := by
 refine T.i0q.ok m2p (fun vs H Q E h => ?_) (fun cdv A' outer s H vs Q E hr h => ?_)
 ·obtain ⟨_, _, rfl, _⟩ := f4i (by unfold j8a at h; exact h)
  rfl
 ·obtain ⟨p, S, rfl, ⟨y, hp, b1, b2, b3, q⟩⟩ := f4i (by unfold j8a at h; exact h)
  have hu := hr.units
  unfold d7y at hp
  have dp := y.den_pos
  refine ⟨_, (a0l (a1k (a1i a3l (a1o a3q (pvF 0) a0k (fun _ _ => rfl)) (a1i a4n (pvF 1) (a1o a3q (pvF 0) a0k (fun _ _ => rfl)))))), ?_⟩
  walk_at "rd*"
  exact ⟨⟨by omega, by omega⟩, IntMulOk.of_le b1 (intBits_fdiv_le b3) (by decide)⟩
theorem m3j (a : Rat) : a * ((a.den : Int) : Rat) = (a.num : Rat) := by
 have h : ((a.den : Int) : Rat) ≠ 0 := fun e => by
  have := Rat.intCast_inj.mp (e.trans (by rfl : (0 : Rat) = ((0 : Int) : Rat)))
  have := a.den_pos
  omega
 conv => lhs; lhs; rw [<- Rat.num_divInt_den a]
 rw [Rat.divInt_eq_div, Rat.div_def, Rat.mul_assoc, Rat.inv_mul_cancel _ h, Rat.mul_one]
theorem m8w {iv : Rat} {n : Int} (h1 : iv.num = 1) (h2 : (iv.den : Int) = n) (x : Rat) : x * iv * (n : Rat) = x := by
 rw [<- h2, Rat.mul_assoc, m3j, h1]
 exact Rat.mul_one x
theorem l4r (T : Tx K mg A) : a1s P A.wd K mg base CX0 4 A.b3v A.d8z ["corners"] i3i := by
 have m8x : a1s P A.wd K mg base CX0 3 _ _ _ _ := m3g T
 have l4s : a1s P A.wd K mg base CX0 3 _ _ _ _ := m3h T
 refine T.c4u.ok c0q (fun vs H Q E h => ?_) (fun cdv A' outer s H vs Q E hr h => ?_)
 ·obtain ⟨_, rfl, _⟩ := b7i (by unfold i3i at h; exact h)
  rfl
 ·obtain ⟨ct, rfl, ⟨ps, cs, hct, R, O, L1, L12, k⟩⟩ := b7i (by unfold i3i at h; exact h)
  have hu := hr.units
  have m3k : a2q 3 _ := hr.mono (by decide)
  have k4x : a2q 3 _ := hr.mono (by decide)
  have pl := R.1
  refine ⟨_, (a0i (a1j (i := 1) c0q.nd rfl (Or.inl rfl) (c8z a0j))
   (a0i (b0r PassesOwn.never rfl (k4h (by rfl) T.j0q (a0g (pvF 0) (a0g (a5m n4q (pvF 0) (a3y a0k) b2z) a0j))) (i2g (n := 2) rfl (c0o (a5g (i := 2) c0q.nd rfl (Or.inl rfl)) (c0o (a5g (i := 3) c0q.nd rfl (Or.inl rfl)) g9y)))
   (a0i (a1j (i := 4) c0q.nd rfl (Or.inl rfl) (a0r m8x m3k (by rfl) T.m8g T.j0o.kp T.l3m .nil a0p (a0g (a1o a3q (pvF 3) a0k (fun _ _ => rfl)) (a0g (a0r l4s k4x (by rfl) T.l3n T.g2m.kp T.i2w .nil a0p (a0g (a8w (a0g (l1r i9r a0k) (a0g a0k a0j))) (a0g (a1o a3q (pvF 2) a0k (fun _ _ => rfl)) a0j))) a0j))))
   (a0l (b0q (b5q b5p PySem.F.plainAttrs_list PySem.F.slot_list_append PySem.F.type_list_append b1z (pvF 1) (a0g (a0r l4s k4x (by rfl) T.l3n T.g2m.kp T.i2w .nil a0p (a0g (pvF 4) (a0g (a8w (a0g a0k (a0g (a1i d0t (a1o a3q (pvF 3) a0k (fun _ _ => rfl)) (a1o a3q (pvF 2) a0k (fun _ _ => rfl))) a0j))) a0j))) a0j))))))
   (a0i (b0q (b5q b5p PySem.F.plainAttrs_list PySem.F.slot_list_append PySem.F.type_list_append b1z (pvF 1) (a0g (a8w (a0g a0k (a0g a0k a0j))) a0j)))
   (a0l (a1k (pvF 1)))))), ?_⟩
  walk_at "rd"
  refine ⟨Nat.zero_le _, fun l H1 n1 S1 h1 => ?_⟩
  have n4r := S1 _ _ hct
  walk_at "rd*"
  refine ⟨fun z => ?_, fun c2 H2 n2 S2 h2 => ?_⟩
  ·have := z.1
   rw [show (some (1 : Int)) = some ((1 : Nat) : Int) from rfl, HT.i2a] at this
   omega
  have e2 : g5j (ps.map V.ref) (some 1) none = (ps.drop 1).map V.ref := by
   show g6o (ps.map V.ref) (some ((1 : Nat) : Int)) none = _
   rw [a5v, List.map_drop]
  rw [e2] at h2
  have m8y := S2 _ _ n4r
  have h12 := S2 _ _ h1
  clear n4r h1
  walk_at "rd*"
  obtain ⟨Pv, pin, pout⟩ := f5n (fun i σ H' => ∃ (v2 v3 v4 : Option V) (qs : List Addr) (ss : List Rat), σ = [some (.ref ct), some (.ref l), v2, v3, v4] /\ Same H H' /\ H' c2 = some (.tup ((ps.drop 1).map V.ref)) /\ H' l = some (.lst (qs.map V.ref)) /\ k4p l H' qs ss /\ ss.length = i /\ (∀ s ∈ ss, intBits s.num <= 60 /\ intBits (s.den : Int) <= 60) /\ ∀ j s, ss[j]? = some s -> SlR cs j s)
  refine i2j (xs := ps.map V.ref) (ys := (ps.drop 1).map V.ref) Pv (pin _ _ _ ⟨_, _, _, [], [], rfl, S1.trans S2, h2, h12, .nil, rfl, (fun s hs => by cases hs), (fun j s e => by simp at e)⟩) ?_ ?_ ?_
  ·intro i σ H3 hp
   obtain ⟨v2, v3, v4, qs, ss, rfl, S3, h3, hl3, R3, L3, B3, V3⟩ := pout _ _ _ hp
   exact ⟨SqT.of (S3 _ _ hct), SqT.of h3⟩
  ·intro i x y σ H3 p H4 hx hy hp np S4 h4
   obtain ⟨v2, v3, v4, qs, ss, rfl, S3, h3, hl3, R3, L3, B3, V3⟩ := pout _ _ _ hp
   obtain ⟨pc, c, g, rfl, hc, hpc, hg⟩ := R.get hx
   have hy' : (ps.map V.ref)[i + 1]? = some y := by
    rw [List.map_drop, List.getElem?_drop] at hy
    rwa [Nat.add_comm] at hy
   obtain ⟨pd, d, gd, rfl, hd, hpd, hgd⟩ := R.get hy'
   have Oc := O.1 c (List.mem_of_getElem? hc)
   have Od := O.1 d (List.mem_of_getElem? hd)
   have lt := O.2 i c d hc hd
   have S04 := S3.trans S4
   have hpc4 := S04 _ _ hpc
   have hpd4 := S04 _ _ hpd
   clear m8y h12 h2
   walk_at "rd*"
   refine fun m H5 n5 S5 h5 => ?_
   have S05 := S04.trans S5
   have hpc5 := S05 _ _ hpc
   clear hpc4
   walk_at "rd*"
   refine ⟨-1, c.2, ⟨h5, S05 _ _ hg, by decide, by decide, by omega, by omega⟩, ?_⟩
   rintro _ H6 ⟨t6, rfl, n6, S6, h6⟩
   have S06 := S05.trans S6
   have m1 := j0y (x := -1) (y := c.2) (a := 1) (b := 1) (by decide) (by decide) Oc.2.2.1 Oc.2.2.2
   walk_at "rd"
   refine ⟨d.2, -1 * c.2, ⟨S06 _ _ hgd, h6, by omega, by omega, by omega, by omega⟩, ?_⟩
   rintro _ H7 ⟨t7, rfl, n7, S7, h7⟩
   have S07 := S06.trans S7
   have m2 := k6z (x := d.2) (y := -1 * c.2) (a := 11) (by omega) (by omega) (by omega) (by omega)
   have hpc7 := S07 _ _ hpc
   have hpd7 := S07 _ _ hpd
   have hl7 := S7 _ _ (S6 _ _ (S5 _ _ (S4 _ _ hl3)))
   clear hpd4 hpc5 h5 h4
   walk_at "rd*"
   refine fun u H8 n8 S8 h8 => ?_
   obtain ⟨iv, in1, in2⟩ := m0v (p := 1) (q := d.1 - c.1) (by omega) (by rw [Int.gcd_one_left])
   have h8' : H8 u = some (.tup (d7y iv)) := by rw [h8, <- in1, <- in2]; rfl
   have b1 : intBits iv.num <= 1 := by rw [in1]; decide
   have b2 : intBits (iv.den : Int) <= 20 := by rw [in2]; exact intBits_le_iff.mpr (Nat.lt_of_le_of_lt (by omega : (d.1 - c.1).natAbs <= 200000) (by decide))
   have m3 := j0y (x := d.2 + -1 * c.2) (y := iv) m2.1 m2.2 b1 b2
   walk_at "rd"
   refine ⟨d.2 + -1 * c.2, iv, ⟨S8 _ _ h7, h8', by omega, by omega, by omega, by omega⟩, ?_⟩
   rintro _ H9 ⟨t9, rfl, n9, S9, h9⟩
   have S79 := S8.trans S9
   have hl9 := S79 _ _ hl7
   have tl : t9 ≠ l := fun e => by rw [e, S8 _ _ hl7] at n9; cases n9
   have ql := R3.1
   have hc2l : c2 ≠ l := fun e => by rw [e, hl3] at h3; cases h3
   clear hpc7 hpd7 h8
   walk_at "rd*"
   refine ⟨by rw [sizeLine_eq]; have := (List.getElem?_eq_some_iff.mp hc).1; omega, ?_⟩
   rintro _ H10 ⟨rfl, B10, h10⟩
   have S39 : Same H3 H9 := S4.trans (S5.trans (S6.trans (S7.trans S79)))
   refine pin _ _ _ ⟨_, _, _, qs ++ [t9], ss ++ [(d.2 + -1 * c.2) * iv], rfl, (S3.trans S39).step n1 B10, B10 _ _ hc2l (S39 _ _ h3), by rw [h10, List.map_append]; rfl, ((R3.same S39).snoc tl h9).g0u B10, by rw [List.length_append, L3]; rfl, fun s hs => ?_, fun j s e => ?_⟩
   ·rcases List.mem_append.mp hs with z | z
    ·exact B3 s z
    ·rw [List.mem_singleton.mp z]
     omega
   ·rcases Nat.lt_or_ge j ss.length with hj | hj
    ·rw [List.getElem?_append_left hj] at e
     exact V3 j s e
    ·rw [List.getElem?_append_right hj] at e
     have hj0 : j - ss.length = 0 := by
      rcases Nat.eq_zero_or_pos (j - ss.length) with z | z
      ·exact z
      ·rw [List.getElem?_eq_none (by rw [List.length_singleton]; omega)] at e
       cases e
     rw [hj0] at e
     cases e
     have ji : j = i := by omega
     subst ji
     intro c' d' hc' hd'
     rw [hc] at hc'
     rw [hd] at hd'
     cases hc'
     cases hd'
     rw [m8w in1 in2]
     rw [Rat.sub_eq_add_neg, Rat.neg_mul, Rat.one_mul]
  ·intro σ H3 hp
   obtain ⟨v2, v3, v4, qs, ss, rfl, S3, h3, hl3, R3, L3, B3, V3⟩ := pout _ _ _ hp
   have ql := R3.1
   rw [List.length_map, List.length_map, List.length_drop] at L3
   clear m8y h12 h2
   walk_at "rd*"
   refine fun u H4 n4 S4 h4 => ?_
   have hl4 := S4 _ _ hl3
   have ul : u ≠ l := fun e => by rw [e, hl3] at n4; cases n4
   have h4' : H4 u = some (.tup (d7y 0)) := h4
   walk_at "rd*"
   refine ⟨by rw [sizeLine_eq]; omega, ?_⟩
   rintro _ H5 ⟨rfl, B5, h5⟩
   walk_at "rd"
   refine k l H5 (qs ++ [u]) (ss ++ [0]) n1 ((S3.trans S4).step n1 B5) (by rw [h5, List.map_append]; rfl) (((R3.same S4).snoc ul h4').g0u B5).rts (by rw [List.length_append, List.length_singleton]; omega) (fun s hs => ?_) (fun j s e => ?_) ?_
   ·rcases List.mem_append.mp hs with z | z
    ·exact B3 s z
    ·rw [List.mem_singleton.mp z]
     exact ⟨by decide, by decide⟩
   ·rcases Nat.lt_or_ge j ss.length with hj | hj
    ·rw [List.getElem?_append_left hj] at e
     exact V3 j s e
    ·intro c' d' hc' hd'
     have := (List.getElem?_eq_some_iff.mp hd').1
     omega
   ·rw [List.getElem?_append_right (by omega), show cs.length - 1 - ss.length = 0 by omega]
    rfl
theorem i3t (ns ms : List Int) : (l6k ns ms).length = max ns.length ms.length := by unfold l6k; simp
theorem k4y {ns ms : List Int} {i : Nat} (h : i < max ns.length ms.length) : (l6k ns ms).getD i 0 = ns.getD i 0 + ms.getD i 0 := by
 unfold l6k
 rw [List.getD_eq_getElem?_getD, List.getElem?_map, List.getElem?_range h]
 rfl
theorem m3l (ns ms : List Int) : n2k ns ms = l6k ns ms := by
 apply List.ext_getElem?
 intro i
 unfold n2k l6k
 rw [List.getElem?_map]
 by_cases h1 : i < min ns.length ms.length
 ·rw [List.append_assoc, List.getElem?_append_left (by simp; omega), List.getElem?_map, List.getElem?_range h1, List.getElem?_range (by omega)]
 ·rw [List.append_assoc, List.getElem?_append_right (by simp; omega), List.length_map, List.length_range]
  by_cases h2 : i < max ns.length ms.length
  ·rw [List.getElem?_range h2]
   show _ = some (ns.getD i 0 + ms.getD i 0)
   by_cases h3 : ns.length <= ms.length
   ·rw [Nat.min_eq_left h3, List.drop_of_length_le (Nat.le_refl _), List.nil_append, List.getElem?_drop, List.getD_eq_getElem?_getD, List.getD_eq_getElem?_getD, List.getElem?_eq_none (l := ns) (by omega), show ns.length + (i - ns.length) = i by omega, List.getElem?_eq_getElem (by omega)]
    simp
   ·rw [Nat.min_eq_right (by omega), List.drop_of_length_le (l := ms) (Nat.le_refl _), List.append_nil, List.getElem?_drop, List.getD_eq_getElem?_getD, List.getD_eq_getElem?_getD, List.getElem?_eq_none (l := ms) (by omega), show ms.length + (i - ms.length) = i by omega, List.getElem?_eq_getElem (by omega)]
    simp
  ·rw [List.getElem?_eq_none (by simp; omega), List.getElem?_eq_none (by simp; omega)]
   rfl
theorem k4z (T : Tx K mg A) : a1s P A.wd K mg base CX0 1 A.b0z A.d2q ["one", "other"] m2w := by
 refine T.b4v.ok d2n (fun vs H Q E h => ?_) (fun cdv A' outer s H vs Q E hr h => ?_)
 ·obtain ⟨_, _, rfl, _⟩ := c7o (by unfold m2w at h; exact h)
  rfl
 ·obtain ⟨p, q, rfl, ⟨ns, ms, hp, hq, hl1, hl2, k⟩⟩ := c7o (by unfold m2w at h; exact h)
  have hu := hr.units
  refine ⟨_, (a0i (a1j (i := 2) d2n.nd rfl (Or.inl rfl) (a1p (l2m rfl) (by rfl) T.l3r boot_min (a0g (a1p a2r (by rfl) T.b3i boot_len (a0g (pvF 0) a0j)) (a0g (a1p a2r (by rfl) T.b3i boot_len (a0g (pvF 1) a0j)) a0j))))
   (a0i (i2e (i := 3) d2n.nd rfl rfl (b7j (by rfl) T.c1r (a0g (pvF 2) a0j)) (fun _ _ _ _ _ => (a1i a2g (a1o a3q (pvF 1) (pvF 0) (fun _ _ => rfl)) (a1o a3q (pvF 2) (pvF 0) (fun _ _ => rfl)))) (f5m (sc := a0h b0t) (N := ["one", "other", "shared", "both"]) rfl rfl (by decide +kernel)) rfl)
   (a0l (a1k (a1i a2g (a1i a2g (pvF 3) (a5m j7d (pvF 0) (a3y (pvF 2)) b2z)) (a5m j7d (pvF 1) (a3y (pvF 2)) b2z)))))), ?_⟩
  walk_at "rd*"
  refine ⟨by omega, by omega, fun D H2 n2 S2 h2 => ?_⟩
  have hmn : (min (ns.length : Int) (ms.length : Int)).toNat = min ns.length ms.length := by omega
  rw [hmn]
  refine g1w (fun i => .int (ns.getD i 0 + ms.getD i 0)) n2 S2 h2 (by rw [sizeLine_eq]; omega) ?_ ?_
  ·intro i H' Q' hi S' q'
   have hp' := S' _ _ hp
   have hq' := S' _ _ hq
   have e1 := h6h (ns := ns) (i := i) (by omega)
   have e2 := h6h (ns := ms) (i := i) (by omega)
   walk_at "rd*"
  intro H3 S3 h3
  have e3 : (List.range (min ns.length ms.length)).map (fun i => V.int (ns.getD i 0 + ms.getD i 0)) = ((List.range (min ns.length ms.length)).map fun i => ns.getD i 0 + ms.getD i 0).map V.int := by
   rw [List.map_map]
   rfl
  rw [e3] at h3
  have hp3 := S3 _ _ hp
  have hq3 := S3 _ _ hq
  walk_at "rd*"
  intro c H4 n4 S4 h4
  rw [show min (ns.length : Int) (ms.length : Int) = ((min ns.length ms.length : Nat) : Int) by omega, c0m, a5v] at h4
  have h34 := S4 _ _ h3
  walk_at "rd*"
  refine ⟨by rw [sizeLine_eq]; simp; omega, fun d H5 n5 S5 h5 => ?_⟩
  have hq5 := S5 _ _ (S4 _ _ hq3)
  walk_at "rd*"
  intro e H6 n6 S6 h6
  rw [show min (ns.length : Int) (ms.length : Int) = ((min ns.length ms.length : Nat) : Int) by omega, c0m, a5v] at h6
  have h56 := S6 _ _ h5
  walk_at "rd*"
  refine ⟨by rw [sizeLine_eq]; simp; omega, fun f H7 n7 S7 h7 => ?_⟩
  have S07 : Same H H6 := S3.trans (S4.trans (S5.trans S6))
  refine k _ _ ⟨f, rfl, S07.free n7, S07.trans S7, ?_⟩
  rw [h7, <- m3l]
  unfold n2k
  simp only [List.map_append]
theorem f3v (ns : List Int) (b : Int) (i : Nat) : (ns.map (· * b)).getD i 0 = ns.getD i 0 * b := by
 rw [List.getD_eq_getElem?_getD, List.getD_eq_getElem?_getD, List.getElem?_map]
 cases ns[i]? with
 | none => exact (Int.zero_mul b).symm
 | some x => rfl
theorem i3u (T : Tx K mg A) : a1s P A.wd K mg base CX0 1 A.b3t A.d8o ["row", "by"] j8b := by
 refine T.b1r.ok j0f (fun vs H Q E h => ?_) (fun cdv A' outer s H vs Q E hr h => ?_)
 ·obtain ⟨_, _, rfl, _⟩ := f4i (by unfold j8b at h; exact h)
  rfl
 ·obtain ⟨p, b, rfl, ⟨ns, hp, hb, hl, k⟩⟩ := f4i (by unfold j8b at h; exact h)
  have hu := hr.units
  refine ⟨_, (a0l (a1k (c4i (a5n (pvF 0)) (fun _ _ _ _ _ => (a1i a3l (pvF 0) (pvF 2))) (f5m (sc := a0h b3r) (N := ["row", "by"]) rfl rfl (by decide +kernel)) rfl))), ?_⟩
  walk_at "rd"
  refine ⟨⟨_, SqL.of hp⟩, fun D H2 n2 S2 h2 => ?_⟩
  refine i9v (fun v => match v with | .int c => .int (c * b) | v => v) n2 S2 h2 (SqL.of hp) (by rw [List.length_map, sizeLine_eq]; omega) ?_ ?_
  ·intro i x H' Q' hx S' q'
   rw [List.getElem?_map] at hx
   obtain ⟨c, hc, rfl⟩ := Option.map_eq_some_iff.mp hx
   walk_at "rd"
   exact ⟨hb c (List.mem_of_getElem? hc), q'⟩
  intro H3 S3 h3
  refine k _ _ ⟨D, rfl, n2, S3, ?_⟩
  rw [h3, List.map_map, List.map_map]
  rfl
theorem c2v (ns : List Int) (st n : Nat) : (j0v ns st n).length = ns.length - st := by unfold j0v; simp
theorem h0b {ns : List Int} {st n i : Nat} (h : i < ns.length - st) : (j0v ns st n).getD i 0 = if n <= st + i then ns.getD (st + i - n) 0 else 0 := by
 unfold j0v
 rw [List.getD_eq_getElem?_getD, List.getElem?_map, List.getElem?_range h]
 rfl
theorem k5a {ns : List Int} {st n : Nat} {x : Int} (h : x ∈ j0v ns st n) : x ∈ ns \/ x = 0 := by
 unfold j0v at h
 obtain ⟨i, hi, rfl⟩ := List.mem_map.mp h
 split
 ·by_cases h2 : st + i - n < ns.length
  ·exact .inl (getD_mem h2)
  ·rw [List.getD_eq_getElem?_getD, List.getElem?_eq_none (by omega)]
   exact .inr rfl
 ·exact .inr rfl
theorem g2z (T : Tx K mg A) : a1s P A.wd K mg base CX0 1 A.c4m A.g2b ["known", "start", "many"] h1z := by
 refine T.c4r.ok k6j (fun vs H Q E h => ?_) (fun cdv A' outer s H vs Q E hr h => ?_)
 ·obtain ⟨_, _, _, rfl, _⟩ := m0q (by unfold h1z at h; exact h)
  rfl
 ·obtain ⟨k, st, n, rfl, ⟨ns, s, m, hk, e1, e2, hs, hl, q⟩⟩ := m0q (by unfold h1z at h; exact h)
  subst e1 e2
  have hu := hr.units
  refine ⟨_, (a0l (a1k (c4i (k5v (by rfl) T.c1r (a0g (pvF 1) (a0g (a1p a2r (by rfl) T.b3i boot_len (a0g (pvF 0) a0j)) a0j))) (fun _ _ _ _ _ => (g9w (a2l l7j (pvF 0) (pvF 3) (a2v _)) (a1o a3q (pvF 1) (a1i d0t (pvF 0) (pvF 3)) (fun _ _ => rfl)) a0k)) (f5m (sc := a0h c4j) (N := ["known", "start", "many"]) rfl rfl (by decide +kernel)) rfl))), ?_⟩
  walk_at "rd*"
  refine ⟨by omega, fun D H2 n2 S2 h2 => ?_⟩
  have hmn : ((ns.length : Int) - (s : Int)).toNat = ns.length - s := by omega
  rw [hmn]
  refine g1w (fun i => .int (if m <= s + i then ns.getD (s + i - m) 0 else 0)) n2 S2 h2 (by rw [sizeLine_eq]; omega) ?_ ?_
  ·intro i H' Q' hi S' q'
   have hk' := S' _ _ hk
   walk_at "rd*"
   split
   ·rename_i h
    rw [if_pos (by omega)] at q'
    refine ⟨_, ?_, q'⟩
    rw [show (s : Int) + (i : Int) - (m : Int) = ((s + i - m : Nat) : Int) by omega]
    exact h6h (by omega)
   ·rename_i h
    rw [if_neg (by omega)] at q'
    exact q'
  intro H3 S3 h3
  refine q _ _ ⟨D, rfl, n2, S3, ?_⟩
  rw [h3]
  unfold j0v
  rw [List.map_map]
  rfl
theorem i3v (T : Tx K mg A) : a1s P A.wd K mg base CX0 1 A.c4n A.g2c ["known", "many"] l3z := by
 refine T.c0v.ok k6k (fun vs H Q E h => ?_) (fun cdv A' outer s H vs Q E hr h => ?_)
 ·obtain ⟨_, _, rfl, _⟩ := f4i (by unfold l3z at h; exact h)
  rfl
 ·obtain ⟨k, n, rfl, ⟨ns, m, hk, e1, hl, q⟩⟩ := f4i (by unfold l3z at h; exact h)
  subst e1
  have hu := hr.units
  refine ⟨_, (a0l (a1k (a2k g0f (by rfl) T.d3y boot_tuple (a0g (a5m j7d (pvF 0) (a3y (a1p (i9s rfl) (by rfl) T.k6v boot_max (a0g a0k (a0g (a1i d0t (a1p a2r (by rfl) T.b3i boot_len (a0g (pvF 0) a0j)) (pvF 1)) a0j)))) b2z) a0j)))), ?_⟩
  walk_at "rd*"
  intro l H1 n1 S1 h1
  rw [show max 0 ((ns.length : Int) - (m : Int)) = ((ns.length - m : Nat) : Int) by omega, c0m, a5v] at h1
  walk_at "rd*"
  intro t H2 n2 S2 h2
  exact q _ _ ⟨t, rfl, S1.free n2, S1.trans S2, h2⟩
theorem h0c (n : Int) (m : Nat) : (l4a n m).length = m + 1 := by unfold l4a; simp
theorem i3w {n : Int} {m i : Nat} (h : i < m + 1) : (l4a n m).getD i 0 = n ^ i := by
 unfold l4a
 rw [List.getD_eq_getElem?_getD, List.getElem?_map, List.getElem?_range h]
 rfl
theorem f3w {n : Int} (h : intBits n <= 10) : ∀ j : Nat, intBits (n ^ j) <= 1 + 10 * j
 | 0 => by rw [Int.pow_zero]; decide
 | j + 1 => by
  rw [Int.pow_succ]
  exact Nat.le_trans (intBits_mul_le (f3w h j) h) (by omega)
theorem m8z (T : Tx K mg A) : a1s P A.wd K mg base CX0 1 A.b3u A.d8r ["number", "most"] m2x := by
 refine T.b8y.ok d8k (fun vs H Q E h => ?_) (fun cdv A' outer s H vs Q E hr h => ?_)
 ·obtain ⟨_, _, rfl, _⟩ := g6p (by unfold m2x at h; exact h)
  rfl
 ·obtain ⟨n, t, rfl, ⟨m, e, hm, hb, k⟩⟩ := g6p (by unfold m2x at h; exact h)
  subst e
  have hu := hr.units
  refine ⟨_, (a0i (a1j (i := 2) d8k.nd rfl (Or.inl rfl) (c8z (a0g a0k a0j)))
   (a0i (b0r PassesOwn.never rfl (b7j (by rfl) T.c1r (a0g (pvF 1) a0j)) (a5g (i := 3) d8k.nd rfl (Or.inl rfl))
   (a0l (b0q (b5q b5p PySem.F.plainAttrs_list PySem.F.slot_list_append PySem.F.type_list_append b1z (pvF 2) (a0g (a1i a3l (a1o a3q (pvF 2) (pvF 3) (fun _ _ => rfl)) (pvF 0)) a0j)))))
   (a0l (a1k (pvF 2))))), ?_⟩
  walk_at "rd"
  refine ⟨by decide, ?_⟩
  intro l H1 n1 S1 h1
  walk_at "rd*"
  refine ⟨by omega, by omega, ?_⟩
  rw [Int.toNat_natCast]
  obtain ⟨Pv, pin, pout⟩ := f5n (fun i σ H' => ∃ v3 : Option V, σ = [some (.int n), some (.int m), some (.ref l), v3] /\ Same H H' /\ H' l = some (.lst ((l4a n i).map V.int)))
  refine f3n (lo := 0) Pv (pin _ _ _ ⟨_, rfl, S1, by rw [h1]; show _ = some (HO.lst [V.int (n ^ 0)]); rw [Int.pow_zero]⟩) ?_ ?_
  ·intro i σ H2 hi hp
   obtain ⟨v3, rfl, S2, h2⟩ := pout _ _ _ hp
   have e1 := h6h (ns := l4a n i) (i := i) (by rw [h0c]; omega)
   rw [i3w (by omega)] at e1
   have pl := h0c n i
   clear h1 hp
   walk_at "rd*"
   refine ⟨IntMulOk.of_right (Nat.le_trans hb (by decide)), by rw [sizeLine_eq]; omega, ?_⟩
   rintro _ H3 ⟨rfl, B3, h3⟩
   refine pin _ _ _ ⟨_, rfl, S2.step n1 B3, ?_⟩
   rw [h3]
   unfold l4a
   rw [List.range_succ (n := i + 1), List.map_append, List.map_append]
   show _ = some (HO.lst (_ ++ [V.int (n ^ (i + 1))]))
   rw [Int.pow_succ]
  ·intro σ H2 hp
   obtain ⟨v3, rfl, S2, h2⟩ := pout _ _ _ hp
   walk_at "rd"
   exact k _ _ ⟨l, rfl, n1, S2, h2⟩
theorem l8k (p q : Int) (t : Nat) : (l6l p q t).length = t + 1 := by unfold l6l; simp
theorem l8l {p q : Int} {t i : Nat} (h : i < t + 1) : (l6l p q t).getD i 0 = m0t p q t i := by
 unfold l6l
 rw [List.getD_eq_getElem?_getD, List.getElem?_map, List.getElem?_range h]
 rfl
theorem IsE.same {C : Addr} {H H' : Hp} {o : Addr} {p q : Int} {n t : Nat} (h : IsE C H o p q n t) (S : Same H H') : IsE C H' o p q n t := by
 obtain ⟨dx, gt, fa, h1, h2, h3⟩ := h
 exact ⟨dx, gt, fa, S _ _ h1, S _ _ h2, S _ _ h3⟩
theorem l8m (T : Tx K mg A) : a1s P A.wd K mg base CX0 2 A.b1i A.d8s ["self", "gain", "many", "turns"] (j8c A.a3j) := by
 have h2f : a1s P A.wd K mg base CX0 1 _ _ _ _ := m8z T
 have a2t := T.a2t
 have a1m := T.a1m
 have a1n := T.a1n
 have a1l := T.a1l
 have a0w := T.a0w
 have a0m := T.a0m
 refine T.d3m.ok d8l (fun vs H Q E h => ?_) (fun cdv A' outer s H vs Q E hr h => ?_)
 ·obtain ⟨_, _, _, _, rfl, _⟩ := l3k (by unfold j8c at h; exact h)
  rfl
 ·obtain ⟨o, gt, n, t, rfl, ⟨dx, m, tt, p, q, e1, e2, ht, bp, bq, hg, ho, k⟩⟩ := l3k (by unfold j8c at h; exact h)
  subst e1 e2
  have hu := hr.units
  have g5u : a2q 1 _ := hr.mono (by decide)
  have gto : gt ≠ o := fun e => by rw [e, ho] at hg; cases hg
  refine ⟨_, (a0i (b0s (pvF 0) (pvF 1) rfl)
   (a0i (b0s (pvF 0) (pvF 2) rfl)
   (a0i (b0s (pvF 0) (pvF 3) rfl)
   (a0i (a1j (i := 4) d8l.nd rfl (Or.inr rfl) (a0r h2f g5u (by rfl) T.h1l T.b8y.kp T.d3l .nil a0p (a0g (a1o a3q (pvF 1) a0k (fun _ _ => rfl)) (a0g (pvF 3) a0j))))
   (a0i (a1j (i := 5) d8l.nd rfl (Or.inr rfl) (a0r h2f g5u (by rfl) T.h1l T.b8y.kp T.d3l .nil a0p (a0g (a1o a3q (pvF 1) a0k (fun _ _ => rfl)) (a0g (pvF 3) a0j))))
   (a0i (b0s (pvF 0) (a2k g0f (by rfl) T.d3y boot_tuple (a0g (c4i (b7j (by rfl) T.c1r (a0g (a1i a2g (pvF 3) a0k) a0j)) (fun _ _ _ _ _ => (a1i a3l (a1o a3q (pvF 5) (pvF 0) (fun _ _ => rfl)) (a1o a3q (pvF 6) (a1i d0t (pvF 4) (pvF 0)) (fun _ _ => rfl)))) (f5m (sc := a0h b3s) (N := ["self", "gain", "many", "turns", "tops", "bottoms"]) rfl rfl (by decide +kernel)) rfl) a0j)) rfl)
   (a0l (b0s (pvF 0) (a1o a3q (pvF 5) (pvF 3) (fun _ _ => rfl)) rfl)))))))), ?_⟩
  walk_at "rd*"
  intro H1 B1 h1
  walk_at "rd*"
  intro H2 B2 h2
  walk_at "rd*"
  intro H3 B3 h3
  have hg3 := B3 _ _ gto (B2 _ _ gto (B1 _ _ gto hg))
  walk_at "rd*"
  refine ⟨tt, rfl, ht, ?_⟩
  rintro _ H4 ⟨l4, rfl, n4, S4, h4⟩
  have hg4 := S4 _ _ hg3
  walk_at "rd*"
  refine ⟨tt, rfl, ht, ?_⟩
  rintro _ H5 ⟨l5, rfl, n5, S5, h5⟩
  have h45 := S5 _ _ h4
  have h35 := S5 _ _ (S4 _ _ h3)
  have pl1 := h0c p tt
  have pl2 := h0c q tt
  clear h4 hg4 hg3
  walk_at "rd*"
  refine ⟨by omega, by omega, fun D H6 n6 S6 h6 => ?_⟩
  rw [show ((tt : Int) + 1).toNat = tt + 1 by omega]
  refine g1w (fun i => .int (m0t p q tt i)) n6 S6 h6 (by rw [sizeLine_eq]; omega) ?_ ?_
  ·intro i H' Q' hi S' q'
   have h4' := S' _ _ h45
   have h5' := S' _ _ h5
   have e1 := h6h (ns := l4a p tt) (i := i) (by omega)
   have e2 := h6h (ns := l4a q tt) (i := tt - i) (by omega)
   rw [i3w (by omega)] at e1 e2
   rw [show ((tt - i : Nat) : Int) = (tt : Int) - (i : Int) by omega] at e2
   clear h45 h35 h5 hg ho h1 h2 h3 pl1 pl2
   walk_at "rd*"
   exact ⟨IntMulOk.of_le (f3w bp i) (f3w bq (tt - i)) (by omega), q'⟩
  intro H7 S7 h7
  have e7 : (List.range (tt + 1)).map (fun i => V.int (m0t p q tt i)) = (l6l p q tt).map V.int := by
   unfold l6l
   rw [List.map_map]
   rfl
  rw [e7] at h7
  walk_at "rd*"
  intro fa H8 n8 S8 h8
  have h38 := S8 _ _ (S7 _ _ h35)
  have h58 := S8 _ _ (S7 _ _ h5)
  have e2 := h6h (ns := l4a q tt) (i := tt) (by omega)
  rw [i3w (by omega)] at e2
  clear h45 h35 h5 h7 e7
  walk_at "rd*"
  intro H9 B9 h9
  have l5o : l5 ≠ o := fun e => by
   rw [e, h38] at h58
   cases h58
  have h59 := B9 _ _ l5o h58
  clear h38 h58
  walk_at "rd*"
  intro H10 B10 h10
  have S38 : Same H3 H8 := S4.trans (S5.trans (S7.trans S8))
  have fao : fa ≠ o := fun e => by
   have := S38 _ _ h3
   rw [e] at h8
   rw [h8] at this
   cases this
  refine k fa H10 (fun b u hb e => B10 _ _ hb (B9 _ _ hb (S38 _ _ (B3 _ _ hb (B2 _ _ hb (B1 _ _ hb e)))))) ?_ h10 (B10 _ _ fao (B9 _ _ fao h8))
  cases hn : H fa with
  | none => rfl
  | some u =>
   exfalso
   have := (S4.trans (S5.trans S7)) _ _ (B3 _ _ fao (B2 _ _ fao (B1 _ _ fao hn)))
   rw [this] at n8
   cases n8
theorem l4t (T : Tx K mg A) : a1s P A.wd K mg base CX0 1 A.a6s A.c2i ["self"] (i3j A.a3j) := by
 have a2t := T.a2t
 have a1m := T.a1m
 have a1n := T.a1n
 have a1l := T.a1l
 have a0w := T.a0w
 have a0m := T.a0m
 refine T.c8h.ok i2r (fun vs H Q E h => ?_) (fun cdv A' outer s H vs Q E hr h => ?_)
 ·obtain ⟨_, rfl, _⟩ := b7i (by unfold i3j at h; exact h)
  rfl
 ·obtain ⟨o, rfl, ⟨p, q, n, t, ⟨dx, gt, fa, ho, hg, hf⟩, k⟩⟩ := b7i (by unfold i3j at h; exact h)
  have hu := hr.units
  unfold ecF at ho
  refine ⟨_, (a0l (a1k (a2p (pvF 0) rfl))), ?_⟩
  walk_at "rd*"
theorem l4u (T : Tx K mg A) : a1s P A.wd K mg base CX0 1 A.a8r A.d2v ["self"] (i3k A.a3j) := by
 have a2t := T.a2t
 have a1m := T.a1m
 have a1n := T.a1n
 have a1l := T.a1l
 have a0w := T.a0w
 have a0m := T.a0m
 refine T.c8i.ok i2s (fun vs H Q E h => ?_) (fun cdv A' outer s H vs Q E hr h => ?_)
 ·obtain ⟨_, rfl, _⟩ := b7i (by unfold i3k at h; exact h)
  rfl
 ·obtain ⟨o, rfl, ⟨p, q, n, t, ⟨dx, gt, fa, ho, hg, hf⟩, hn, k⟩⟩ := b7i (by unfold i3k at h; exact h)
  have hu := hr.units
  unfold ecF at ho
  refine ⟨_, (a0l (a1k (a1i a3l (a2p (pvF 0) rfl) (a2p (pvF 0) rfl)))), ?_⟩
  walk_at "rd*"
  exact ⟨IntMulOk.of_left (intBits_le_64 (by omega) (by omega)), by rw [<- Int.natCast_mul]; exact k⟩
theorem j8t (kn : List Int) (st n : Nat) (p q : Int) (t : Nat) : ∀ j, (l6m kn st n p q t j).length <= kn.length - st
 | 0 => Nat.zero_le _
 | j + 1 => by
  have := j8t kn st n p q t j
  rw [l6m, i3t, List.length_map, c2v]
  omega
theorem l8n (kn : List Int) (st n : Nat) (p q : Int) (t j : Nat) : (l6m kn st n p q t (j + 1)).length = kn.length - st := by
 have := j8t kn st n p q t j
 rw [l6m, i3t, List.length_map, c2v]
 omega
theorem j1a {p q : Int} (bp : intBits p <= 10) (bq : intBits q <= 10) {t j : Nat} (ht : t <= 16) (hj : j <= t) : intBits (m0t p q t j) <= 170 :=
 Nat.le_trans (intBits_mul_le (f3w bp j) (f3w bq (t - j))) (by omega)
theorem m3m (T : Tx K mg A) : a1s P A.wd K mg base CX0 2 A.a4j A.b5v ["self", "state", "tops", "bottom"] (l4b A.a3j) := by
 have f0k : a1s P A.wd K mg base CX0 1 _ _ _ _ := g2z T
 have c5l : a1s P A.wd K mg base CX0 1 _ _ _ _ := i3v T
 have f0l : a1s P A.wd K mg base CX0 1 _ _ _ _ := k4z T
 have b9g : a1s P A.wd K mg base CX0 1 _ _ _ _ := i3u T
 have j1b : a1s P A.wd K mg base CX0 1 _ _ _ _ := l4u T
 have a2t := T.a2t
 have a1m := T.a1m
 have a1n := T.a1n
 have a1l := T.a1l
 have a0w := T.a0w
 have a0m := T.a0m
 refine T.b9p.ok a8g (fun vs H Q E h => ?_) (fun cdv A' outer s H vs Q E hr h => ?_)
 ·obtain ⟨_, _, _, _, rfl, _⟩ := c9h (by unfold l4b at h; exact h)
  rfl
 ·obtain ⟨o, st, x, bt, rfl, ⟨p, q, n, t, zs, xs, is, hz, hx, lz, lx, hn, ht, bp, bq, by0, k⟩⟩ := c9h (by unfold l4b at h; exact h)
  have hu := hr.units
  have d2k : a2q 1 _ := hr.mono (by decide)
  have b9h : a2q 1 _ := hr.mono (by decide)
  have d4i : a2q 1 _ := hr.mono (by decide)
  have b5l : a2q 1 _ := hr.mono (by decide)
  have i3x : a2q 1 _ := hr.mono (by decide)
  have is0 := is
  obtain ⟨dx, gt, fa, ho, hg, hf⟩ := is
  unfold ecF at ho
  refine ⟨_, (a0i (a1j (i := 4) a8g.nd rfl (Or.inl rfl) (a1i a2g (a2k a4w (by rfl) T.b3j boot_list (a0g (pvF 1) a0j)) (pvF 2)))
   (a0i (a1j (i := 5) a8g.nd rfl (Or.inl rfl) (c8z a0j))
   (a0i (b0r PassesOwn.never rfl (b7j (by rfl) T.c1r (a0g (a1i a2g (a2p (pvF 0) rfl) a0k) a0j)) (a5g (i := 6) a8g.nd rfl (Or.inl rfl))
   (a0i (a1j (i := 7) a8g.nd rfl (Or.inl rfl) (a0r f0k d2k (by rfl) T.h1j T.c4r.kp T.d9l .nil a0p (a0g (pvF 4) (a0g (a1p a2r (by rfl) T.b3i boot_len (a0g (pvF 1) a0j)) (a0g (a1i a3l (pvF 6) (a2p (pvF 0) rfl)) a0j)))))
   (a0l (a1j (i := 5) a8g.nd rfl (Or.inl rfl) (a0r f0l d4i (by rfl) T.g5q T.b4v.kp T.c7u .nil a0p (a0g (pvF 5) (a0g (a0r b9g b5l (by rfl) T.d3i T.b1r.kp T.b8w .nil a0p (a0g (pvF 7) (a0g (a1o a3q (a2p (pvF 0) rfl) (pvF 6) (fun _ _ => rfl)) a0j))) a0j)))))))
   (a0l (a1k (a8w (a0g (pvF 5) (a0g (a0r c5l b9h (by rfl) T.g0o T.c0v.kp T.d1t .nil a0p (a0g (pvF 4) (a0g (a0n (pvF 0) T.a2t T.i3d j1b i3x T.d9o .nil a0p) a0j))) a0j)))))))), ?_⟩
  walk_at "rd*"
  intro l1 H1 n1 S1 h1
  have hx1 := S1 _ _ hx
  walk_at "rd*"
  refine ⟨by rw [sizeLine_eq]; omega, ?_⟩
  intro kn H2 n2 S2 h2
  rw [<- List.map_append] at h2
  have S02 : Same H H2 := S1.trans S2
  clear h1 hx1
  walk_at "rd*"
  refine ⟨Nat.zero_le _, ?_⟩
  intro o0 H3 n3 S3 h3
  have S03 := S02.trans S3
  have h23 := S3 _ _ h2
  have ho3 := S03 _ _ ho
  clear h2
  walk_at "rd*"
  refine ⟨by omega, by omega, ?_⟩
  rw [show ((t : Int) + 1).toNat = t + 1 by omega]
  obtain ⟨Pv, pin, pout⟩ := f5n (fun j σ H' => ∃ (ou : Addr) (v6 v7 : Option V), σ = [some (.ref o), some (.ref st), some (.ref x), some (.int bt), some (.ref kn), some (.ref ou), v6, v7] /\ Same H2 H' /\ H' kn = some (.lst ((zs ++ xs).map V.int)) /\ H2 ou = none /\ H' ou = some (.lst ((l6m (zs ++ xs) zs.length n p q t j).map V.int)))
  refine f3n (lo := 0) Pv (pin _ _ _ ⟨o0, _, _, rfl, S3, h23, n3, h3⟩) ?_ ?_
  ·intro j σ H4 hj hp
   obtain ⟨ou, v6, v7, rfl, S4, hk4, nou, hou⟩ := pout _ _ _ hp
   have S04 := S02.trans S4
   have ho4 := S04 _ _ ho
   have hz4 := S04 _ _ hz
   have hf4 := S04 _ _ hf
   have e1 := h6h (ns := l6l p q t) (i := j) (by rw [l8k]; omega)
   rw [l8l (by omega)] at e1
   have fb := j1a bp bq (t := t) (j := j) ht (by omega)
   clear h23 ho3 h3 hp ho hz hf hx hg
   walk_at "rd*"
   refine ⟨IntMulOk.of_left (intBits_le_64 (by omega) (by omega)), zs ++ xs, rfl, zs.length, rfl, j * n, (Int.natCast_mul j n).symm, by simp, by simp; omega, ?_⟩
   rintro _ H5 ⟨hd, rfl, n5, S5, h5⟩
   have ho5 := S5 _ _ ho4
   have hf5 := S5 _ _ hf4
   have dl := c2v (zs ++ xs) zs.length (j * n)
   clear ho4 hf4 hz4
   walk_at "rd*"
   refine ⟨_, rfl, ?_, by rw [dl]; simp; omega, ?_⟩
   ·intro y hy
    rcases k5a hy with h | h
    ·exact IntMulOk.of_le (by0 y h) fb (by decide)
    ·rw [h]; exact IntMulOk.of_left (by decide)
   rintro _ H6 ⟨l6, rfl, n6, S6, h6⟩
   have hou6 := S6 _ _ (S5 _ _ hou)
   have el := j8t (zs ++ xs) zs.length n p q t j
   rw [List.length_append] at el
   walk_at "rd*"
   refine ⟨_, rfl, _, rfl, by omega, by rw [List.length_map, dl]; simp; omega, ?_⟩
   rintro _ H7 ⟨ou', rfl, n7, S7, h7⟩
   have S47 := S5.trans (S6.trans S7)
   exact pin _ _ _ ⟨ou', _, _, rfl, S4.trans S47, S47 _ _ hk4, (S4.trans (S5.trans S6)).free n7, h7⟩
  ·intro σ H4 hp
   obtain ⟨ou, v6, v7, rfl, S4, hk4, nou, hou⟩ := pout _ _ _ hp
   have S04 := S02.trans S4
   have ho4 := S04 _ _ ho
   have is4 := is0.same S04
   clear h23 ho3 h3 hp ho hz hf hx hg is0
   walk_at "rd*"
   refine ⟨p, q, n, t, is4, hn, zs ++ xs, rfl, n * t, rfl, by simp; omega, ?_⟩
   rintro _ H5 ⟨s2, rfl, n5, S5, h5⟩
   walk_at "rd*"
   intro r H6 n6 S6 h6
   exact k r ou s2 H6 (S04.trans (S5.trans S6)) ((S04.trans S5).free n6) (S02.free nou) h6 (S6 _ _ (S5 _ _ hou)) (S6 _ _ h5)
theorem k5b {kn : List Int} {st n : Nat} {p q : Int} {t i : Nat} (h : i < kn.length - st) : ∀ j, (l6m kn st n p q t j).getD i 0 = i0t (fun m => (j0v kn st (m * n)).getD i 0) p q t j
 | 0 => rfl
 | j + 1 => by
  rw [l6m, k4y (by rw [List.length_map, c2v]; omega), f3v, k5b h j, i0t]
theorem k4q.tps {l : Addr} {H : Hp} {qs : List Addr} {vs : List (List V)} (h : k4q l H qs vs) : Tps H qs vs := ⟨h.1, fun i q s e1 e2 => (h.2 i q s e1 e2).2⟩
theorem Tps.same {H H' : Hp} {qs : List Addr} {vs : List (List V)} (h : Tps H qs vs) (S : Same H H') : Tps H' qs vs := ⟨h.1, fun i q s e1 e2 => S _ _ (h.2 i q s e1 e2)⟩
theorem Tps.g0u {o : Addr} {H H' : Hp} {qs : List Addr} {vs : List (List V)} {C dx : Addr} {fs : List (Str × V)} (h : Tps H qs vs) (ho : H o = some (.ins C dx fs)) (S : a6j o H H') : Tps H' qs vs :=
 ⟨h.1, fun i q s e1 e2 => S _ _ (fun z => by have := h.2 i q s e1 e2; rw [z, ho] at this; cases this) (h.2 i q s e1 e2)⟩
theorem k4q.g0u {l : Addr} {H H' : Hp} {qs : List Addr} {vs : List (List V)} (h : k4q l H qs vs) (S : a6j l H H') : k4q l H' qs vs := ⟨h.1, fun i q s e1 e2 => ⟨(h.2 i q s e1 e2).1, S _ _ (h.2 i q s e1 e2).1 (h.2 i q s e1 e2).2⟩⟩
theorem k4q.same {l : Addr} {H H' : Hp} {qs : List Addr} {vs : List (List V)} (h : k4q l H qs vs) (S : Same H H') : k4q l H' qs vs := h.g0u fun b o _ e => S b o e
theorem k4q.nil {l : Addr} {H : Hp} : k4q l H [] [] := ⟨rfl, fun i q s e => by simp at e⟩
theorem k4q.snoc {l : Addr} {H : Hp} {qs : List Addr} {vs : List (List V)} {q : Addr} {v : List V} (h : k4q l H qs vs) (hl : q ≠ l) (hq : H q = some (.tup v)) : k4q l H (qs ++ [q]) (vs ++ [v]) := by
 refine ⟨by rw [List.length_append, List.length_append, h.1]; rfl, fun i q' s' e1 e2 => ?_⟩
 by_cases hi : i < qs.length
 ·rw [List.getElem?_append_left hi] at e1
  rw [List.getElem?_append_left (by rw [<- h.1]; exact hi)] at e2
  exact h.2 i q' s' e1 e2
 ·rw [List.getElem?_append_right (by omega)] at e1
  rw [List.getElem?_append_right (by rw [<- h.1]; omega)] at e2
  rw [<- h.1] at e2
  cases hz : i - qs.length with
  | zero =>
   rw [hz] at e1 e2
   simp at e1 e2
   subst e1 e2
   exact ⟨hl, hq⟩
  | succ n =>
   rw [hz] at e1
   simp at e1
theorem l4v (T : Tx K mg A) : a1s P A.wd K mg base CX0 5 A.a8s A.d2w ["self", "corners"] (i3l A.a2n) := by
 have j8u : a1s P A.wd K mg base CX0 4 _ _ _ _ := l4r T
 have h2g : a1s P A.wd K mg base CX0 3 _ _ _ _ := l4q T
 have m0w : a1s P A.wd K mg base CX0 1 _ _ _ _ := l8j T
 have a2i := T.a2i
 have a0q := T.a0q
 have a0s := T.a0s
 have a1g := T.a1g
 refine T.c8k.ok g0l (fun vs H Q E h => ?_) (fun cdv A' outer s H vs Q E hr h => ?_)
 ·obtain ⟨_, _, rfl, _⟩ := c7o (by unfold i3l at h; exact h)
  rfl
 ·obtain ⟨o, l, rfl, ⟨dx, ps, cs, ho, hl, R, O, L1, L12, k⟩⟩ := c7o (by unfold i3l at h; exact h)
  have hu := hr.units
  have j1c : a2q 4 _ := hr.mono (by decide)
  have g6w : a2q 3 _ := hr.mono (by decide)
  have l4w : a2q 1 _ := hr.mono (by decide)
  have pl := R.1
  have lo : l ≠ o := fun e => by rw [e, ho] at hl; cases hl
  refine ⟨_, (a0i (b0s (pvF 0) (a2k g0f (by rfl) T.d3y boot_tuple (a0g (pvF 1) a0j)) rfl)
   (a0i (a1j (i := 2) g0l.nd rfl (Or.inl rfl) (a0r j8u j1c (by rfl) T.j7v T.c4u.kp T.f6s .nil a0p (a0g (a2p (pvF 0) rfl) a0j)))
   (a0i (b0s (pvF 0) (a0r h2g g6w (by rfl) T.h1o T.b1t.kp T.c4t .nil a0p (a0g (a1i a2g (c4i (a5n (pvF 1)) (fun _ _ _ _ _ => (a1o a3q (a1o a3q (pvF 0) a0k (fun _ _ => rfl)) a0k (fun _ _ => rfl))) (f5m (sc := a0h a6q) (N := ["self", "corners", "slopes"]) rfl rfl (by decide +kernel)) rfl) (c4i (a5n (pvF 2)) (fun _ _ _ _ _ => (a1o a3q (pvF 0) a0k (fun _ _ => rfl))) (f5m (sc := a0h a6q) (N := ["self", "corners", "slopes"]) rfl rfl (by decide +kernel)) rfl)) a0j)) rfl)
   (a0l (b0s (pvF 0) (a2k g0f (by rfl) T.d3y boot_tuple (a0g (l7t (k4h (by rfl) T.j0q (a0g (a2p (pvF 0) rfl) (a0g (pvF 2) a0j))) (fun _ _ _ _ _ => (a8w (a0g (a1o a3q (pvF 0) a0k (fun _ _ => rfl)) (a0g (a0r m0w l4w (by rfl) T.m0s T.i0q.kp T.k4o .nil a0p (a0g (a1o a3q (pvF 0) a0k (fun _ _ => rfl)) (a0g (k4j (K := K) (by rfl) (pvF 2) (by rfl)) a0j))) (a0g (a0r m0w l4w (by rfl) T.m0s T.i0q.kp T.k4o .nil a0p (a0g (pvF 1) (a0g (k4j (K := K) (by rfl) (pvF 2) (by rfl)) a0j))) a0j))))) (m0o (sc := a0h a6q) (N := ["self", "corners", "slopes"]) rfl rfl (by decide +kernel)) rfl) a0j)) rfl))))), ?_⟩
  walk_at "rd*"
  refine fun ct H1 n1 S1 h1 => ?_
  have ho1 := S1 _ _ ho
  walk_at "rd*"
  refine fun H2 B2 h2 => ?_
  have cto : ct ≠ o := fun e => by rw [e, ho] at n1; cases n1
  have m8y := B2 _ _ cto h1
  have hl2 := B2 _ _ lo (S1 _ _ hl)
  have R2 := (R.same S1).g0u ho1 B2
  clear ho1 h1
  walk_at "rd*"
  refine ⟨ps, rfl, cs, R2, O, L1, L12, fun l3 H3 qs ss n3 S3 h3 R3 L3 B3 V3 Z3 => ?_⟩
  have hl3 := S3 _ _ hl2
  have R23 := R2.same S3
  have ho3 := S3 _ _ h2
  have n0m := S3 _ _ m8y
  have ql := R3.1
  clear hl2 m8y h2
  try walk_at "rd"
  refine ⟨⟨_, SqL.of hl3⟩, fun D4 H4 n4 S4 h4 => ?_⟩
  refine i2h (cs.map fun c => V.int (c.2.den : Nat)) (by rw [List.length_map, List.length_map, pl]) n4 S4 h4 (SqL.of hl3) (by rw [List.length_map, pl, sizeLine_eq]; omega) ?_ ?_
  ·intro i x z H' Q' hx hz S' q'
   obtain ⟨p, c, g, rfl, hc, hp, hg⟩ := R23.get hx
   rw [List.getElem?_map, hc] at hz
   cases hz
   have hp' := S' _ _ hp
   have hg' := S' _ _ hg
   unfold d7y at hg'
   clear ho3 n0m hl3 h3 h4 hp hg
   walk_at "rd*"
  intro H5 S5 h5
  have h35 := S5 _ _ h3
  try walk_at "rd"
  refine ⟨⟨_, SqL.of h35⟩, fun D6 H6 n6 S6 h6 => ?_⟩
  have R35 := R3.same S5
  refine i2h (ss.map fun s => V.int (s.den : Nat)) (by rw [List.length_map, List.length_map, ql]) n6 S6 h6 (SqL.of h35) (by rw [List.length_map, ql, sizeLine_eq]; omega) ?_ ?_
  ·intro i x z H' Q' hx hz S' q'
   obtain ⟨p, c, rfl, hc, hp⟩ := R35.get hx
   rw [List.getElem?_map, hc] at hz
   cases hz
   have hp' := S' _ _ hp
   unfold d7y at hp'
   clear ho3 n0m hl3 h3 h4 hp h35 h5 h6
   walk_at "rd*"
  intro H7 S7 h7
  have h57 := S7 _ _ h5
  clear h4 h6 h35
  walk_at "rd*"
  refine ⟨by rw [sizeLine_eq]; omega, fun b8 H8 n8 S8 h8 => ?_⟩
  have e8 : cs.map (fun c => V.int (c.2.den : Nat)) ++ ss.map (fun s => V.int (s.den : Nat)) = ((cs.map fun c => (c.2.den : Int)) ++ ss.map fun s => (s.den : Int)).map V.int := by
   rw [List.map_append, List.map_map, List.map_map]
   rfl
  rw [e8] at h8
  have S38 : Same H3 H8 := S5.trans (S7.trans S8)
  have ho8 := S38 _ _ ho3
  have n4s := S38 _ _ n0m
  have n0n := S38 _ _ h3
  have R8 := R23.same S38
  have Q8 := R3.same S38
  have bk : ∀ b ∈ (cs.map fun c => (c.2.den : Int)) ++ ss.map fun s => (s.den : Int), 1 <= b /\ intBits b <= 64 := fun b hb => by
   rcases List.mem_append.mp hb with z | z
   ·obtain ⟨c, hc, rfl⟩ := List.mem_map.mp z
    have := O.1 c hc
    have := c.2.den_pos
    omega
   ·obtain ⟨s, hs, rfl⟩ := List.mem_map.mp z
    have := B3 s hs
    have := s.den_pos
    omega
  have lk := l4p _ bk
  have dv := lk.2.1
  have ll : ((cs.map fun c => (c.2.den : Int)) ++ ss.map fun s => (s.den : Int)).length = cs.length + ss.length := by simp
  clear h57 h7 h5 ho3 n0m hl3
  walk_at "rd"
  refine ⟨_, h8, bk, by omega, ?_⟩
  rw [ll] at lk
  have hSw : SwOk cs ss (l1g ((cs.map fun c => (c.2.den : Int)) ++ ss.map fun s => (s.den : Int))) := ⟨L3, V3, Z3, lk.1, by omega, fun c hc => dv _ (List.mem_append_left _ (List.mem_map.mpr ⟨c, hc, rfl⟩)), fun s hs => dv _ (List.mem_append_right _ (List.mem_map.mpr ⟨s, hs, rfl⟩)), fun s hs => (B3 s hs).1, by omega, rfl⟩
  clear dv
  generalize l1g ((cs.map fun c => (c.2.den : Int)) ++ ss.map fun s => (s.den : Int)) = S at lk hSw
  clear h8
  walk_at "rd*"
  refine fun H9 B9 h9 => ?_
  have n2t := B9 _ _ cto n4s
  have l3o : l3 ≠ o := fun e => by rw [e, ho8] at n0n; cases n0n
  have n4t := B9 _ _ l3o n0n
  have R9 := R8.g0u ho8 B9
  have Q9 := Q8.g0u ho8 B9
  clear ho8 n4s n0n
  walk_at "rd*"
  refine fun D10 H10 n10 S10 h10 => ?_
  refine k6a (xs := ps.map V.ref) (ys := qs.map V.ref) (fun i zs H' => Same H9 H' /\ H' D10 = some (.lst zs) /\ zs.length = i /\ ∃ us, zs = us.map V.ref /\ k4q D10 H' us (((List.zipWith (lnOf S) cs ss).map lnV).take i)) ⟨S10, h10, rfl, [], rfl, .nil⟩ (by rw [List.length_map, pl, sizeLine_eq]; omega) ?_ ?_ ?_
  ·intro i zs H' hi ⟨S', h', zl, _⟩
   exact ⟨h', SqT.of (S' _ _ n2t), SqL.of (S' _ _ n4t), zl⟩
  ·intro i x y zs H' p H'' hx hy ⟨S', h', zl, us, ez, TN⟩ np S'' h''
   obtain ⟨pc, c, g, rfl, hc, hpc, hg⟩ := R9.get hx
   obtain ⟨ps', s', rfl, hs', hps⟩ := Q9.get hy
   have Oc := O.1 c (List.mem_of_getElem? hc)
   have Bs := B3 s' (List.mem_of_getElem? hs')
   have SS := S'.trans S''
   have hpc' := SS _ _ hpc
   have hg' := SS _ _ hg
   have ho' := SS _ _ h9
   have hD' := S'' _ _ h'
   clear n2t n4t h9 h10 hpc hg h' h''
   walk_at "rd*"
   refine ⟨c.2, rfl, by omega, by omega, by omega, s', SS _ _ hps, by omega, by omega, by omega, by decide, fun u H3' n3' S3' h3' => ⟨S3' _ _ hD', fun H4' B4' h4' => ⟨(SS.trans S3').step n10 B4', h4', by rw [List.length_append, zl]; rfl, us ++ [u], by rw [ez, List.map_append]; rfl, ?_⟩⟩⟩
   have uD : u ≠ D10 := fun e => by rw [e, hD'] at n3'; cases n3'
   have et : ((List.zipWith (lnOf S) cs ss).map lnV).take (i + 1) = ((List.zipWith (lnOf S) cs ss).map lnV).take i ++ [lnV (lnOf S c s')] := by
    rw [List.take_add_one, List.getElem?_map, List.getElem?_zipWith, hc, hs']
    rfl
   rw [et]
   exact (((TN.same S'').same S3').snoc uD h3').g0u B4'
  intro zs H11 ⟨S11, h11, zl, us, ez, TN⟩
  have n4u := S11 _ _ h9
  have m9a := S11 _ _ n2t
  clear h10
  walk_at "rd*"
  refine fun ln H12 n12 S12 h12 => ?_
  have n4v := S12 _ _ n4u
  have n2u := S12 _ _ m9a
  clear h11 n4u m9a
  walk_at "rd*"
  refine fun H13 B13 h13 => ?_
  have el : ((List.zipWith (lnOf S) cs ss).map lnV).take (min (ps.map V.ref).length (qs.map V.ref).length) = (List.zipWith (lnOf S) cs ss).map lnV := List.take_of_length_le (by rw [List.length_map, List.length_zipWith, List.length_map, List.length_map, pl, ql]; exact Nat.le_refl _)
  rw [el] at TN
  have lno : ln ≠ o := fun e => by rw [e, n4v] at h12; cases h12
  exact k ct ln S ss us H13 (fun b u hb e => B13 _ _ hb (S12 _ _ (S11 _ _ (B9 _ _ hb (S38 _ _ (S3 _ _ (B2 _ _ hb (S1 _ _ e)))))))) n1 h13 (B13 _ _ cto n2u) (B13 _ _ lno h12) ((TN.tps.same S12).g0u n4v B13) hSw
theorem l8o (T : Tx K mg A) : a1s P A.wd K mg base CX0 1 A.b1g A.d8p ["self", "gain"] (j8d A.a5k) := by
 have a2w := T.a2w
 have a1t := T.a1t
 refine T.d3j.ok j0g (fun vs H Q E h => ?_) (fun cdv A' outer s H vs Q E hr h => ?_)
 ·obtain ⟨_, _, rfl, _⟩ := c7o (by unfold j8d at h; exact h)
  rfl
 ·obtain ⟨o, gt, rfl, ⟨dx, ho, k⟩⟩ := c7o (by unfold j8d at h; exact h)
  have hu := hr.units
  refine ⟨_, (a0l (b0s (pvF 0) (pvF 1) rfl)), ?_⟩
  walk_at "rd*"
  intro H1 B1 h1
  exact k H1 B1 h1
theorem l4x (T : Tx K mg A) : a1s P A.wd K mg base CX0 1 A.a8p A.d2t ["self", "many"] (i3m A.a3m) := by
 have a2o := T.a2o
 have a1q := T.a1q
 refine T.c7z.ok i2q (fun vs H Q E h => ?_) (fun cdv A' outer s H vs Q E hr h => ?_)
 ·obtain ⟨_, _, rfl, _⟩ := f4i (by unfold i3m at h; exact h)
  rfl
 ·obtain ⟨o, n, rfl, ⟨dx, ho, k⟩⟩ := f4i (by unfold i3m at h; exact h)
  have hu := hr.units
  refine ⟨_, (a0l (b0s (pvF 0) (pvF 1) rfl)), ?_⟩
  walk_at "rd*"
  intro H1 B1 h1
  exact k H1 B1 h1
theorem l8p (T : Tx K mg A) : a1s P A.wd K mg base CX0 1 A.b1k A.d8u ["self", "gain", "many"] (j8e A.a4s) := by
 have a2y := T.a2y
 have a1u := T.a1u
 have a1v := T.a1v
 refine T.d3o.ok j0h (fun vs H Q E h => ?_) (fun cdv A' outer s H vs Q E hr h => ?_)
 ·obtain ⟨_, _, _, rfl, _⟩ := f4m (by unfold j8e at h; exact h)
  rfl
 ·obtain ⟨o, gt, n, rfl, ⟨dx, ho, k⟩⟩ := f4m (by unfold j8e at h; exact h)
  have hu := hr.units
  refine ⟨_, (a0i (b0s (pvF 0) (pvF 1) rfl)
   (a0l (b0s (pvF 0) (pvF 2) rfl))), ?_⟩
  walk_at "rd*"
  intro H1 B1 h1
  walk_at "rd*"
  intro H2 B2 h2
  exact k H2 (fun b u hb e => B2 _ _ hb (B1 _ _ hb e)) h2
theorem l8q (T : Tx K mg A) : a1s P A.wd K mg base CX0 1 A.b1m A.d8w ["self", "gain", "many"] (j8f A.a4y) := by
 have a3h := T.a3h
 have a1y := T.a1y
 have a1z := T.a1z
 refine T.d3q.ok j0i (fun vs H Q E h => ?_) (fun cdv A' outer s H vs Q E hr h => ?_)
 ·obtain ⟨_, _, _, rfl, _⟩ := f4m (by unfold j8f at h; exact h)
  rfl
 ·obtain ⟨o, gt, n, rfl, ⟨dx, ho, k⟩⟩ := f4m (by unfold j8f at h; exact h)
  have hu := hr.units
  refine ⟨_, (a0i (b0s (pvF 0) (pvF 1) rfl)
   (a0l (b0s (pvF 0) (pvF 2) rfl))), ?_⟩
  walk_at "rd*"
  intro H1 B1 h1
  walk_at "rd*"
  intro H2 B2 h2
  exact k H2 (fun b u hb e => B2 _ _ hb (B1 _ _ hb e)) h2
theorem l4c.same {H H' : Hp} {fs : List (Str × V)} {d : Dt} (h : l4c H fs d) (S : Same H H') : l4c H' fs d := by
 cases d with
 | gain y => obtain ⟨g, e, h1⟩ := h; exact ⟨g, e, S _ _ h1⟩
 | delay n => exact h
 | echo y n t => obtain ⟨g, fa, e, h1, h2⟩ := h; exact ⟨g, fa, e, S _ _ h1, S _ _ h2⟩
 | back y n => obtain ⟨g, e, h1⟩ := h; exact ⟨g, e, S _ _ h1⟩
 | hall y n => obtain ⟨g, e, h1⟩ := h; exact ⟨g, e, S _ _ h1⟩
 | swell cs => obtain ⟨ct, ln, S', ss, us, ps, e, h1, h2, h3, h4, h5⟩ := h; exact ⟨ct, ln, S', ss, us, ps, e, S _ _ h1, S _ _ h2, h3.same S, h4, h5.same S⟩
theorem j6t.crn {cs : List (Int × Rat)} (h : j6t cs) : l3y cs := ⟨fun c hc => ⟨(h.1 c hc).1, Int.le_trans (h.1 c hc).2.1 (by decide), (h.1 c hc).2.2.b.1, (h.1 c hc).2.2.b.2⟩, h.2.1⟩
theorem l8r {x : Rat} {a : Nat} (h : intBits x.num <= a) : intBits (Rat.abs x).num <= a := by
 rw [j8o]
 exact intBits_natAbs_le h
theorem l4y {us : List Addr} {i : Nat} {u : Addr} (h : us[i]? = some u) : atI (us.map V.ref) (i : Int) = some (.ref u) := d7z (by rw [List.getElem?_map, h]; rfl)
theorem m2y.same {C : Addr} {H H' : Hp} {o : Addr} {ps : List Addr} {cs : List (Int × Rat)} {ss : List Rat} {S : Int} (h : m2y C H o ps cs ss S) (Z : Same H H') : m2y C H' o ps cs ss S := by
 obtain ⟨dx, ct, ln, us, h1, h2, h3, h4, h5⟩ := h
 exact ⟨dx, ct, ln, us, Z _ _ h1, Z _ _ h2, Z _ _ h3, h4.same Z, h5.same Z⟩
theorem k5c {H : Hp} {us : List Addr} {cs : List (Int × Rat)} {ss : List Rat} {S : Int} (h : Tps H us ((List.zipWith (lnOf S) cs ss).map lnV)) (hl : ss.length = cs.length) {i : Nat} (hi : i < cs.length) :
  ∃ u c s, us[i]? = some u /\ cs[i]? = some c /\ ss[i]? = some s /\ H u = some (.tup (lnV (lnOf S c s))) := by
 have ul : us.length = cs.length := by
  rw [h.1, List.length_map, List.length_zipWith, hl, Nat.min_self]
 have h1 : us[i]? = some us[i] := List.getElem?_eq_getElem (by omega)
 have h2 : cs[i]? = some cs[i] := List.getElem?_eq_getElem (by omega)
 have h3 : ss[i]? = some ss[i] := List.getElem?_eq_getElem (by omega)
 refine ⟨_, _, _, h1, h2, h3, h.2 i _ _ h1 ?_⟩
 rw [List.getElem?_map, List.getElem?_zipWith, h2, h3]
 rfl
theorem m3n (T : Tx K mg A) : a1s P A.wd K mg base CX0 1 A.a4p A.c1n ["self", "at"] (l4d A.a2n) := by
 have a2i := T.a2i
 have a0q := T.a0q
 have a0s := T.a0s
 have a1g := T.a1g
 refine T.b6m.ok c1j (fun vs H Q E h => ?_) (fun cdv A' outer s H vs Q E hr h => ?_)
 ·obtain ⟨_, _, rfl, _⟩ := f4i (by unfold l4d at h; exact h)
  rfl
 ·obtain ⟨o, t, rfl, ⟨ps, cs, ss, S, ⟨dx, ct, ln, us, ho, hct, hln, TP, R⟩, O, L1, L12, k⟩⟩ := f4i (by unfold l4d at h; exact h)
  have hu := hr.units
  have ul : us.length = cs.length := by
   rw [TP.1, List.length_map, List.length_zipWith, O.1, Nat.min_self]
  unfold swF at ho
  refine ⟨_, (a0i (a1j (i := 2) c1j.nd rfl (Or.inl rfl) a0k)
   (a0i (h0q PassesOwn.never (pw_and (a2l of_lt (a1i a2g (pvF 2) a0k) (a1p a2r (by rfl) T.b3i boot_len (a0g (a2p (pvF 0) rfl) a0j)) (a2v _)) (pw_and1 (a2l of_le (a1o a3q (a1o a3q (a2p (pvF 0) rfl) (a1i a2g (pvF 2) a0k) (fun _ _ => rfl)) a0k (fun _ _ => rfl)) (pvF 1) (a2v _)))).pt
   (a0l (m1x (i := 2) c1j.nd rfl (Or.inl rfl) a0k m1w)))
   (a0l (a1k (a1o a3q (a2p (pvF 0) rfl) (pvF 2) (fun _ _ => rfl)))))), ?_⟩
  walk_at "rd"
  refine h0r (fun m σ H1 => ∃ j : Nat, σ = [some (.ref o), some (.int t), some (.int j)] /\ H1 = H /\ j < cs.length /\ m = cs.length - j /\ (j = 0 \/ ∀ c, cs[j]? = some c -> c.1 <= t)) _
   ⟨0, rfl, rfl, by omega, rfl, .inl rfl⟩ ?_
  rintro m σ H1 ⟨j, rfl, rfl, hj, rfl, hjt⟩
  have fin : (∀ d, cs[j + 1]? = some d -> t < d.1) -> ∃ v, atI (List.map V.ref us) (j : Int) = some v /\ Q v H1 := fun hd => by
   obtain ⟨u, c, s', e1, e2, e3, e4⟩ := k5c TP O.1 hj
   exact ⟨_, l4y e1, k j u c s' e2 e3 e4 (hjt.imp id fun z => z c e2) hd⟩
  walk_at "rd*"
  split
  ·obtain ⟨u, c, s', e1, e2, e3, e4⟩ := k5c TP O.1 (i := j + 1) (by omega)
   have e5 := l4y e1
   rw [Int.natCast_add] at e5
   refine ⟨_, e5, ?_⟩
   unfold lnV lnOf at e4
   walk_at "rd*"
   split
   ·rename_i hc
    exact ⟨_, by omega, j + 1, by omega, by omega, rfl, .inr fun c' h' => by rw [e2] at h'; cases h'; exact hc⟩
   ·rename_i hc
    exact fin fun d hd => by
     rw [e2] at hd
     cases hd
     omega
  ·rename_i hc
   refine fin fun d hd => ?_
   have := (List.getElem?_eq_some_iff.mp hd).1
   omega
theorem l4z (T : Tx K mg A) : a1s P A.wd K mg base CX0 2 A.a4q A.c1o ["self", "at"] (i3n A.a2n) := by
 have h2i : a1s P A.wd K mg base CX0 1 _ _ _ _ := m3n T
 have a2i := T.a2i
 have a0q := T.a0q
 have a0s := T.a0s
 have a1g := T.a1g
 refine T.b6n.ok d6z (fun vs H Q E h => ?_) (fun cdv A' outer s H vs Q E hr h => ?_)
 ·obtain ⟨_, _, rfl, _⟩ := f4i (by unfold i3n at h; exact h)
  rfl
 ·obtain ⟨o, t, rfl, ⟨ps, cs, ss, S, I, O, CO, L1, L12, t0, t1, k⟩⟩ := f4i (by unfold i3n at h; exact h)
  have hu := hr.units
  have g6x : a2q 1 _ := hr.mono (by decide)
  obtain ⟨dx, ct, ln, us, ho, _⟩ := id I
  unfold swF at ho
  refine ⟨_, (a0i (a1j (i := 2) d6z.nd rfl (Or.inl rfl) (a8y (pvF 0) T.a2i T.g6s h2i g6x T.c4v .nil a0p (a0g (pvF 1) a0j)))
   (a0l (a1k (a1i a2g (a1o a3q (pvF 2) a0k (fun _ _ => rfl)) (a1i a3l (a1o a3q (pvF 2) a0k (fun _ _ => rfl)) (a1p (i9s rfl) (by rfl) T.k6v boot_max (a0g a0k (a0g (a1i d0t (pvF 1) (a1o a3q (pvF 2) a0k (fun _ _ => rfl))) a0j)))))))), ?_⟩
  walk_at "rd*"
  refine ⟨ps, cs, ss, S, I, O, L1, L12, fun m u c s' e1 e2 e3 e4 e5 => ?_⟩
  unfold lnV lnOf at e3
  have Oc := CO.1 c (List.mem_of_getElem? e1)
  obtain ⟨_, _, _, _, O5, _, _, O8, O9⟩ := O
  clear O9
  have b1 : intBits (c.2.num * S.fdiv c.2.den) <= 10 + 1600 := intBits_mul_le Oc.2.2.1 (intBits_fdiv_le O5)
  have b2 : intBits (s'.num * S.fdiv s'.den) <= 60 + 1600 := intBits_mul_le (O8 s' (List.mem_of_getElem? e2)) (intBits_fdiv_le O5)
  have b3 : intBits (max 0 (t - c.1)) <= 64 := intBits_le_64 (by omega) (by omega)
  have b4 := intBits_mul_le b2 b3
  have b5 := intBits_add_le b1 b4
  have q := k m c s' ⟨e1, e2, e4, e5⟩ (Nat.le_trans b5 (by decide))
  unfold g2u at q
  walk_at "rd*"
  exact IntMulOk.of_le b2 b3 (by decide)
theorem k7b (T : Tx K mg A) : a1s P A.wd K mg base CX0 1 A.a5o A.b9m ["self"] (h2a A.a2n) := by
 have a2i := T.a2i
 have a0q := T.a0q
 have a0s := T.a0s
 have a1g := T.a1g
 refine T.c2k.ok h6j (fun vs H Q E h => ?_) (fun cdv A' outer s H vs Q E hr h => ?_)
 ·obtain ⟨_, rfl, _⟩ := b7i (by unfold h2a at h; exact h)
  rfl
 ·obtain ⟨o, rfl, ⟨ps, cs, ss, S, ⟨dx, ct, ln, us, ho, _⟩, k⟩⟩ := b7i (by unfold h2a at h; exact h)
  have hu := hr.units
  unfold swF at ho
  refine ⟨_, (a0l (a1k (a2p (pvF 0) rfl))), ?_⟩
  walk_at "rd*"
theorem i0y (T : Tx K mg A) : a1s P A.wd K mg base CX0 1 A.a6u A.c9k ["self"] g0s := by
 refine T.c2l.ok h6k (fun vs H Q E h => ?_) (fun cdv A' outer s H vs Q E hr h => ?_)
 ·obtain ⟨_, rfl, _⟩ := b7i (by unfold g0s at h; exact h)
  rfl
 ·obtain ⟨o, rfl, k⟩ := b7i (by unfold g0s at h; exact h)
  have hu := hr.units
  refine ⟨_, (a0l (a1k a0k)), ?_⟩
  walk_at "rd*"
  all_goals exact k
theorem k5d (T : Tx K mg A) : a1s P A.wd K mg base CX0 1 A.a2h A.d2s ["self"] f0i := by
 refine T.c7w.ok i2o (fun vs H Q E h => ?_) (fun cdv A' outer s H vs Q E hr h => ?_)
 ·obtain ⟨_, rfl, _⟩ := b7i (by unfold f0i at h; exact h)
  rfl
 ·obtain ⟨o, rfl, k⟩ := b7i (by unfold f0i at h; exact h)
  have hu := hr.units
  refine ⟨_, (a0l (a1k (a8w a0j))), ?_⟩
  walk_at "rd"
  refine ⟨Nat.zero_le _, fun t H1 n1 S1 h1 => k _ _ ⟨t, rfl, n1, S1, h1⟩⟩
theorem l5a (T : Tx K mg A) : a1s P A.wd K mg base CX0 1 A.a6r A.c2h ["self"] (i3o A.a5k) := by
 have a2w := T.a2w
 have a1t := T.a1t
 refine T.c7y.ok i2p (fun vs H Q E h => ?_) (fun cdv A' outer s H vs Q E hr h => ?_)
 ·obtain ⟨_, rfl, _⟩ := b7i (by unfold i3o at h; exact h)
  rfl
 ·obtain ⟨o, rfl, ⟨p, q, ⟨dx, gt, ho, hg⟩, k⟩⟩ := b7i (by unfold i3o at h; exact h)
  have hu := hr.units
  refine ⟨_, (a0l (a1k (a1o a3q (a2p (pvF 0) rfl) a0k (fun _ _ => rfl)))), ?_⟩
  walk_at "rd*"
theorem m3o (T : Tx K mg A) : a1s P A.wd K mg base CX0 2 A.a4i A.b5u ["self", "state", "tops", "bottom"] (l4e A.a5k) := by
 have b9g : a1s P A.wd K mg base CX0 1 _ _ _ _ := i3u T
 have a2w := T.a2w
 have a1t := T.a1t
 refine T.b9n.ok h1a (fun vs H Q E h => ?_) (fun cdv A' outer s H vs Q E hr h => ?_)
 ·obtain ⟨_, _, _, _, rfl, _⟩ := c9h (by unfold l4e at h; exact h)
  rfl
 ·obtain ⟨o, st, x, bt, rfl, ⟨p, q, xs, ⟨dx, gt, ho, hg⟩, hx, lx, mx, k⟩⟩ := c9h (by unfold l4e at h; exact h)
  have hu := hr.units
  have b5l : a2q 1 _ := hr.mono (by decide)
  refine ⟨_, (a0l (a1k (a8w (a0g (a0r b9g b5l (by rfl) T.d3i T.b1r.kp T.b8w .nil a0p (a0g (pvF 2) (a0g (a1o a3q (a2p (pvF 0) rfl) a0k (fun _ _ => rfl)) a0j))) (a0g (pvF 1) a0j))))), ?_⟩
  walk_at "rd*"
  refine ⟨xs, rfl, mx, by omega, ?_⟩
  rintro _ H1 ⟨ou, rfl, n1, S1, h1⟩
  walk_at "rd*"
  intro r H2 n2 S2 h2
  exact k r ou st H2 (S1.trans S2) (S1.free n2) n1 h2 (S2 _ _ h1)
theorem g0v (T : Tx K mg A) : a1s P A.wd K mg base CX0 1 A.a3i A.d2r ["self"] d3z := by
 refine T.c7v.ok i2n (fun vs H Q E h => ?_) (fun cdv A' outer s H vs Q E hr h => ?_)
 ·obtain ⟨_, rfl, _⟩ := b7i (by unfold d3z at h; exact h)
  rfl
 ·obtain ⟨o, rfl, k⟩ := b7i (by unfold d3z at h; exact h)
  have hu := hr.units
  refine ⟨_, (a0l (a1k a0k)), ?_⟩
  walk_at "rd"
  exact k
theorem m3p (T : Tx K mg A) : a1s P A.wd K mg base CX0 2 A.a3s A.b3o ["self", "state", "tops", "bottom"] (l4f A.a3m) := by
 have f0k : a1s P A.wd K mg base CX0 1 _ _ _ _ := g2z T
 have c5l : a1s P A.wd K mg base CX0 1 _ _ _ _ := i3v T
 have a2o := T.a2o
 have a1q := T.a1q
 refine T.b6j.ok d6y (fun vs H Q E h => ?_) (fun cdv A' outer s H vs Q E hr h => ?_)
 ·obtain ⟨_, _, _, _, rfl, _⟩ := c9h (by unfold l4f at h; exact h)
  rfl
 ·obtain ⟨o, st, x, bt, rfl, ⟨n, zs, xs, ⟨dx, ho⟩, hz, hx, lz, lx, k⟩⟩ := c9h (by unfold l4f at h; exact h)
  have hu := hr.units
  have d2k : a2q 1 _ := hr.mono (by decide)
  have b9h : a2q 1 _ := hr.mono (by decide)
  refine ⟨_, (a0i (a1j (i := 4) d6y.nd rfl (Or.inl rfl) (a1i a2g (a2k a4w (by rfl) T.b3j boot_list (a0g (pvF 1) a0j)) (pvF 2)))
   (a0l (a1k (a8w (a0g (a0r f0k d2k (by rfl) T.h1j T.c4r.kp T.d9l .nil a0p (a0g (pvF 4) (a0g (a1p a2r (by rfl) T.b3i boot_len (a0g (pvF 1) a0j)) (a0g (a2p (pvF 0) rfl) a0j)))) (a0g (a0r c5l b9h (by rfl) T.g0o T.c0v.kp T.d1t .nil a0p (a0g (pvF 4) (a0g (a2p (pvF 0) rfl) a0j))) a0j)))))), ?_⟩
  walk_at "rd*"
  intro l1 H1 n1 S1 h1
  have hx1 := S1 _ _ hx
  walk_at "rd*"
  refine ⟨by rw [sizeLine_eq]; omega, ?_⟩
  intro kn H2 n2 S2 h2
  rw [<- List.map_append] at h2
  have S02 : Same H H2 := S1.trans S2
  have ho2 := S02 _ _ ho
  have hz2 := S02 _ _ hz
  clear h1 hx1
  walk_at "rd*"
  refine ⟨zs ++ xs, rfl, zs.length, rfl, n, rfl, by simp, by simp; omega, ?_⟩
  rintro _ H3 ⟨ou, rfl, n3, S3, h3⟩
  have ho3 := S3 _ _ ho2
  have h23 := S3 _ _ h2
  clear h2 ho2 hz2
  walk_at "rd*"
  refine ⟨zs ++ xs, rfl, n, rfl, by simp; omega, ?_⟩
  rintro _ H4 ⟨s2, rfl, n4, S4, h4⟩
  walk_at "rd*"
  intro r H5 n5 S5 h5
  exact k r ou s2 H5 (S02.trans (S3.trans (S4.trans S5))) ((S02.trans (S3.trans S4)).free n5) (S02.free n3) h5 (S5 _ _ (S4 _ _ h3)) (S5 _ _ h4)
theorem l5b (T : Tx K mg A) : a1s P A.wd K mg base CX0 1 A.a6t A.c2j ["self"] (i3p A.a4s) := by
 have a2y := T.a2y
 have a1u := T.a1u
 have a1v := T.a1v
 refine T.c8j.ok i2t (fun vs H Q E h => ?_) (fun cdv A' outer s H vs Q E hr h => ?_)
 ·obtain ⟨_, rfl, _⟩ := b7i (by unfold i3p at h; exact h)
  rfl
 ·obtain ⟨o, rfl, ⟨dx, gt, n, p, q, ho, hg, k⟩⟩ := b7i (by unfold i3p at h; exact h)
  have hu := hr.units
  unfold bkF at ho
  refine ⟨_, (a0l (a1k (a1o a3q (a2p (pvF 0) rfl) a0k (fun _ _ => rfl)))), ?_⟩
  walk_at "rd*"
theorem m3q (T : Tx K mg A) : a1s P A.wd K mg base CX0 2 A.a4k A.b5w ["self", "state", "tops", "bottom"] (l4g A.a4s) := by
 have f0k : a1s P A.wd K mg base CX0 1 _ _ _ _ := g2z T
 have c5l : a1s P A.wd K mg base CX0 1 _ _ _ _ := i3v T
 have f0l : a1s P A.wd K mg base CX0 1 _ _ _ _ := k4z T
 have b9g : a1s P A.wd K mg base CX0 1 _ _ _ _ := i3u T
 have a2y := T.a2y
 have a1u := T.a1u
 have a1v := T.a1v
 refine T.b9r.ok b5s (fun vs H Q E h => ?_) (fun cdv A' outer s H vs Q E hr h => ?_)
 ·obtain ⟨_, _, _, _, rfl, _⟩ := c9h (by unfold l4g at h; exact h)
  rfl
 ·obtain ⟨o, st, x, bt, rfl, ⟨dx, gt, n, p, q, zs, xs, ho, hg, hz, hx, lz, lx, mz, mx, mq, m0, k⟩⟩ := c9h (by unfold l4g at h; exact h)
  have hu := hr.units
  have d2k : a2q 1 _ := hr.mono (by decide)
  have b9h : a2q 1 _ := hr.mono (by decide)
  have d4i : a2q 1 _ := hr.mono (by decide)
  have b5l : a2q 1 _ := hr.mono (by decide)
  unfold bkF at ho
  refine ⟨_, (a0i (a1j (i := 4) b5s.nd rfl (Or.inl rfl) (a1i a2g (a2k a4w (by rfl) T.b3j boot_list (a0g (pvF 1) a0j)) (pvF 2)))
   (a0i (a1j (i := 5) b5s.nd rfl (Or.inl rfl) (a0r f0k d2k (by rfl) T.h1j T.c4r.kp T.d9l .nil a0p (a0g (pvF 4) (a0g (a1p a2r (by rfl) T.b3i boot_len (a0g (pvF 1) a0j)) (a0g (a2p (pvF 0) rfl) a0j)))))
   (a0i (a1j (i := 6) b5s.nd rfl (Or.inl rfl) (a0r f0l d4i (by rfl) T.g5q T.b4v.kp T.c7u .nil a0p (a0g (a0r b9g b5l (by rfl) T.d3i T.b1r.kp T.b8w .nil a0p (a0g (pvF 2) (a0g (a1o a3q (a2p (pvF 0) rfl) a0k (fun _ _ => rfl)) a0j))) (a0g (a0r b9g b5l (by rfl) T.d3i T.b1r.kp T.b8w .nil a0p (a0g (pvF 5) (a0g (l1r i9r (a1o a3q (a2p (pvF 0) rfl) a0k (fun _ _ => rfl))) a0j))) a0j))))
   (a0l (a1k (a8w (a0g (pvF 6) (a0g (a0r c5l b9h (by rfl) T.g0o T.c0v.kp T.d1t .nil a0p (a0g (pvF 4) (a0g (a2p (pvF 0) rfl) a0j))) a0j)))))))), ?_⟩
  walk_at "rd*"
  intro l1 H1 n1 S1 h1
  have hx1 := S1 _ _ hx
  walk_at "rd*"
  refine ⟨by rw [sizeLine_eq]; omega, ?_⟩
  intro kn H2 n2 S2 h2
  rw [<- List.map_append] at h2
  have S02 : Same H H2 := S1.trans S2
  have ho2 := S02 _ _ ho
  have hz2 := S02 _ _ hz
  clear h1 hx1
  walk_at "rd*"
  refine ⟨zs ++ xs, rfl, zs.length, rfl, n, rfl, by simp, by simp; omega, ?_⟩
  rintro _ H3 ⟨hd, rfl, n3, S3, h3⟩
  have S03 := S02.trans S3
  have ho3 := S03 _ _ ho
  have hg3 := S03 _ _ hg
  have hx3 := S03 _ _ hx
  have h23 := S3 _ _ h2
  clear h2 ho2 hz2
  walk_at "rd*"
  refine ⟨xs, rfl, mq, by omega, ?_⟩
  rintro _ H4 ⟨t4, rfl, n4, S4, h4⟩
  have ho4 := S4 _ _ ho3
  have hg4 := S4 _ _ hg3
  have h34 := S4 _ _ h3
  clear ho3 hg3 hx3
  walk_at "rd*"
  have dl := c2v (zs ++ xs) zs.length n
  refine ⟨_, rfl, ?_, by rw [dl]; simp; omega, ?_⟩
  ·intro y hy
   rcases k5a hy with h | h
   ·rcases List.mem_append.mp h with h | h
    ·exact mz y h
    ·exact mx y h
   ·rw [h]; exact m0
  rintro _ H5 ⟨t5, rfl, n5, S5, h5⟩
  have h45 := S5 _ _ h4
  walk_at "rd*"
  refine ⟨_, rfl, _, rfl, by simp; omega, by rw [List.length_map, dl]; simp; omega, ?_⟩
  rintro _ H6 ⟨ou, rfl, n6, S6, h6⟩
  have S36 : Same H3 H6 := (S4.trans S5).trans S6
  have ho6 := S36 _ _ (S03 _ _ ho)
  have h26 := S36 _ _ h23
  clear h4 h45 ho4 hg4 h34 h5 h3
  walk_at "rd*"
  refine ⟨zs ++ xs, rfl, n, rfl, by simp; omega, ?_⟩
  rintro _ H7 ⟨s2, rfl, n7, S7, h7⟩
  walk_at "rd*"
  intro r H8 n8 S8 h8
  have S06 := S03.trans S36
  exact k r ou s2 H8 (S06.trans (S7.trans S8)) ((S06.trans S7).free n8) ((S03.trans (S4.trans S5)).free n6) (S06.free n7) h8 (S8 _ _ (S7 _ _ h6)) (S8 _ _ h7)
theorem m9b (T : Tx K mg A) : a1s P A.wd K mg base CX0 1 A.a5z A.c1l ["top", "bottom"] m2z := by
 refine T.b1s.ok g6q (fun vs H Q E h => ?_) (fun cdv A' outer s H vs Q E hr h => ?_)
 ·obtain ⟨_, _, rfl, _⟩ := g6p (by unfold m2z at h; exact h)
  rfl
 ·obtain ⟨t, b, rfl, ⟨b1, bb, k⟩⟩ := g6p (by unfold m2z at h; exact h)
  have hu := hr.units
  unfold twn at k
  refine ⟨_, (a0l (a1k (g9w (a2l l7j (pvF 0) a0k (a2v _)) (a1i a4n (pvF 0) (pvF 1)) (l1r i9r (a1i a4n (l1r i9r (pvF 0)) (pvF 1)))))), ?_⟩
  walk_at "rd"
  split
  ·rename_i h
   rw [if_pos h] at k
   exact ⟨⟨by omega, by omega⟩, k⟩
  ·rename_i h
   rw [if_neg h] at k
   exact ⟨⟨by omega, by omega⟩, k⟩
theorem twn_bnd {t b : Int} (b1 : 1 <= b) : ((twn t b).natAbs : Int) * b <= (t.natAbs : Int) := by
 unfold twn
 split
 ·rename_i h
  have f := Int.fmod_def t b
  have g := b5k t (b := b) (by omega)
  have z : 0 <= t.fdiv b := by
   rw [Int.fdiv_eq_ediv_of_nonneg _ (by omega)]
   exact Int.ediv_nonneg h (by omega)
  have e : ((t.fdiv b).natAbs : Int) = t.fdiv b := by omega
  rw [e, Int.mul_comm]
  omega
 ·rename_i h
  have f := Int.fmod_def (-t) b
  have g := b5k (-t) (b := b) (by omega)
  have z : 0 <= (-t).fdiv b := by
   rw [Int.fdiv_eq_ediv_of_nonneg _ (by omega)]
   exact Int.ediv_nonneg (by omega) (by omega)
  have e : ((-((-t).fdiv b)).natAbs : Int) = (-t).fdiv b := by omega
  rw [e, Int.mul_comm]
  omega
theorem l8s {p q bt h : Int} (q1 : 1 <= q) (b1 : 1 <= bt) (hp : (p.natAbs : Int) <= q) : ((hadd p q bt h * bt).natAbs : Int) <= (h.natAbs : Int) := by
 have qb : 1 <= q * bt := Int.mul_pos (by omega) (by omega)
 have t := twn_bnd (t := p * h) qb
 rw [Int.natAbs_mul, Int.natCast_mul] at t
 unfold hadd
 rw [Int.natAbs_mul, Int.natCast_mul, show ((bt.natAbs : Nat) : Int) = bt by omega]
 generalize ((twn (p * h) (q * bt)).natAbs : Int) = W at *
 have m : (p.natAbs : Int) * (h.natAbs : Int) <= q * (h.natAbs : Int) := Int.mul_le_mul_of_nonneg_right hp (by omega)
 have e : q * (W * bt) <= q * (h.natAbs : Int) := by
  have : W * (q * bt) = q * (W * bt) := by grind
  omega
 exact Int.le_of_mul_le_mul_left e (by omega)
theorem f0m (p q bt : Int) (n : Nat) : ∀ (a b kn : List Int), hallL p q bt n kn (a ++ b) = hallL p q bt n (hallL p q bt n kn a) b
 | [], b, kn => rfl
 | x :: a, b, kn => f0m p q bt n a b _
theorem h2j (p q bt : Int) (n : Nat) : ∀ (a kn : List Int), ∃ ys, hallL p q bt n kn a = kn ++ ys /\ ys.length = a.length
 | [], kn => ⟨[], by rw [List.append_nil]; rfl, rfl⟩
 | x :: a, kn => by
  obtain ⟨ys, e, l⟩ := h2j p q bt n a (kn ++ [x + hadd p q bt (heard kn n) * bt])
  refine ⟨(x + hadd p q bt (heard kn n) * bt) :: ys, ?_, by rw [List.length_cons, List.length_cons, l]⟩
  rw [hallL, e, List.append_assoc]
  rfl
theorem c0z (p q bt : Int) (n : Nat) (a kn : List Int) : (hallL p q bt n kn a).length = kn.length + a.length := by
 obtain ⟨ys, e, l⟩ := h2j p q bt n a kn
 rw [e, List.length_append, l]
theorem c4g {xs : List Int} {B : Nat} (h : ∀ y ∈ xs, intBits y <= B) (B1 : 1 <= B) (i : Nat) : intBits (xs.getD i 0) <= B := by
 rw [List.getD_eq_getElem?_getD]
 cases e : xs[i]? with
 | none => exact Nat.le_trans (by decide : intBits 0 <= 1) B1
 | some y => exact h y (List.mem_of_getElem? e)
theorem k7c {kn : List Int} {n B : Nat} (h : ∀ y ∈ kn, intBits y <= B) (B1 : 1 <= B) : intBits (heard kn n) <= B := by
 unfold heard
 split
 ·exact c4g h B1 _
 ·exact Nat.le_trans (by decide : intBits 0 <= 1) B1
theorem j1d {p q bt h : Int} {B : Nat} (q1 : 1 <= q) (b1 : 1 <= bt) (hp : (p.natAbs : Int) <= q) (hh : intBits h <= B) : intBits (hadd p q bt h * bt) <= B /\ intBits (hadd p q bt h) <= B := by
 have e := l8s (h := h) q1 b1 hp
 have z := intBits_le_iff.mp hh
 have e1 : (hadd p q bt h * bt).natAbs < 2 ^ B := by omega
 refine ⟨intBits_le_iff.mpr e1, intBits_le_iff.mpr (Nat.lt_of_le_of_lt ?_ e1)⟩
 rw [Int.natAbs_mul]
 exact Nat.le_mul_of_pos_right _ (by omega)
theorem f3y {p q bt : Int} {n : Nat} (q1 : 1 <= q) (b1 : 1 <= bt) (hp : (p.natAbs : Int) <= q) : ∀ (a kn : List Int) (B : Nat), 1 <= B -> (∀ y ∈ kn, intBits y <= B) -> (∀ y ∈ a, intBits y <= B) -> ∀ y ∈ hallL p q bt n kn a, intBits y <= B + a.length
 | [], kn, B, _, hk, _, y, hy => Nat.le_trans (hk y hy) (Nat.le_add_right _ _)
 | x :: a, kn, B, B1, hk, ha, y, hy => by
  have hb := (j1d (p := p) (q := q) (bt := bt) q1 b1 hp (k7c (n := n) hk B1)).1
  have h2 : intBits (x + hadd p q bt (heard kn n) * bt) <= max B B + 1 := intBits_add_le (ha x List.mem_cons_self) hb
  have := f3y q1 b1 hp a (kn ++ [x + hadd p q bt (heard kn n) * bt]) (B + 1) (by omega) (fun z hz => by
   rcases List.mem_append.mp hz with h | h
   ·exact Nat.le_succ_of_le (hk z h)
   ·rw [List.mem_singleton.mp h]
    exact Nat.le_trans h2 (by omega)) (fun z hz => Nat.le_succ_of_le (ha z (List.mem_cons_of_mem _ hz))) y hy
  rw [List.length_cons]
  omega
theorem m3r (T : Tx K mg A) : a1s P A.wd K mg base CX0 2 A.a4l A.b5y ["self", "state", "tops", "bottom"] (l4h A.a4y) := by
 have h2l : a1s P A.wd K mg base CX0 1 _ _ _ _ := m9b T
 have c5l : a1s P A.wd K mg base CX0 1 _ _ _ _ := i3v T
 have a3h := T.a3h
 have a1y := T.a1y
 have a1z := T.a1z
 refine T.b9t.ok b0w (fun vs H Q E h => ?_) (fun cdv A' outer s H vs Q E hr h => ?_)
 ·obtain ⟨_, _, _, _, rfl, _⟩ := c9h (by unfold l4h at h; exact h)
  rfl
 ·obtain ⟨o, st, x, bt, rfl, ⟨dx, gt, n, p, q, zs, xs, ho, hg, hz, hx, lz, lx, n1, q1, b1, bp, bq, bb, hpq, bz, bx, k⟩⟩ := c9h (by unfold l4h at h; exact h)
  have hu := hr.units
  have g6y : a2q 1 _ := hr.mono (by decide)
  have b9h : a2q 1 _ := hr.mono (by decide)
  unfold bkF at ho
  refine ⟨_, (a0i (a1j (i := 4) b0w.nd rfl (Or.inl rfl) (a2k a4w (by rfl) T.b3j boot_list (a0g (pvF 1) a0j)))
   (a0i (b0r PassesOwn.never rfl (a5n (pvF 2)) (a5g (i := 5) b0w.nd rfl (Or.inl rfl))
   (a0i (a1j (i := 6) b0w.nd rfl (Or.inl rfl) (g9w (a2l l7j (a1p a2r (by rfl) T.b3i boot_len (a0g (pvF 4) a0j)) (a2p (pvF 0) rfl) (a2v _)) (a1o a3q (pvF 4) (a1i d0t (a1p a2r (by rfl) T.b3i boot_len (a0g (pvF 4) a0j)) (a2p (pvF 0) rfl)) (fun _ _ => rfl)) a0k))
   (a0i (a1j (i := 7) b0w.nd rfl (Or.inl rfl) (a0r h2l g6y (by rfl) T.h1n T.b1s.kp T.c4s .nil a0p (a0g (a1i a3l (a1o a3q (a2p (pvF 0) rfl) a0k (fun _ _ => rfl)) (pvF 6)) (a0g (a1i a3l (a1o a3q (a2p (pvF 0) rfl) a0k (fun _ _ => rfl)) (pvF 3)) a0j))))
   (a0l (b0q (b5q b5p PySem.F.plainAttrs_list PySem.F.slot_list_append PySem.F.type_list_append b1z (pvF 4) (a0g (a1i a2g (pvF 5) (a1i a3l (pvF 7) (pvF 3))) a0j)))))))
   (a0l (a1k (a8w (a0g (a5m j7d (pvF 4) (a3y (a1p a2r (by rfl) T.b3i boot_len (a0g (pvF 1) a0j))) b2z) (a0g (a0r c5l b9h (by rfl) T.g0o T.c0v.kp T.d1t .nil a0p (a0g (pvF 4) (a0g (a2p (pvF 0) rfl) a0j))) a0j))))))), ?_⟩
  walk_at "rd*"
  intro kn H1 n1' S1 h1
  have hx1 := S1 _ _ hx
  walk_at "rd*"
  refine ⟨⟨_, SqL.of hx1⟩, ?_⟩
  obtain ⟨Pv, pin, pout⟩ := f5n (fun i σ H' => ∃ (v5 v6 v7 : Option V), σ = [some (.ref o), some (.ref st), some (.ref x), some (.int bt), some (.ref kn), v5, v6, v7] /\ Same H H' /\ H' kn = some (.lst ((hallL p q bt n zs (xs.take i)).map V.int)))
  refine b5n (xs := xs.map V.int) Pv (pin _ _ _ ⟨_, _, _, rfl, S1, h1⟩) ?_ ?_ ?_
  ·intro i σ H2 hi hp
   obtain ⟨v5, v6, v7, rfl, S2, h2⟩ := pout _ _ _ hp
   exact SqL.of (S2 _ _ hx)
  ·intro i v σ H2 hv hp
   rw [List.getElem?_map] at hv
   obtain ⟨y, hy, rfl⟩ := Option.map_eq_some_iff.mp hv
   obtain ⟨v5, v6, v7, rfl, S2, h2⟩ := pout _ _ _ hp
   have ho2 := S2 _ _ ho
   have hg2 := S2 _ _ hg
   have et : xs.take (i + 1) = xs.take i ++ [y] := by rw [List.take_add_one, hy]; rfl
   have ea := f0m p q bt n (xs.take i) [y] zs
   rw [<- et] at ea
   have hl := c0z p q bt n (xs.take i) zs
   rw [List.length_take] at hl
   have hi := (List.getElem?_eq_some_iff.mp hy).1
   obtain ⟨L, eL⟩ : ∃ L, hallL p q bt n zs (xs.take i) = L := ⟨_, rfl⟩
   rw [eL] at ea hl h2
   replace ea : hallL p q bt n zs (xs.take (i + 1)) = L ++ [y + hadd p q bt (heard L n) * bt] := ea
   clear hv hp h1 hx1 ho hg hx hz
   have qb1 : 1 <= q * bt := Int.mul_pos (by omega) (by omega)
   have qbb : intBits (q * bt) <= 8964 := intBits_mul_le bq bb
   have bL : ∀ z ∈ L, intBits z <= 150000 + 100000 := fun z hz => by
    have := f3y q1 b1 hpq (xs.take i) zs 150000 (by decide) bz (fun y hy => bx y (List.mem_of_mem_take hy)) z (by rw [eL]; exact hz)
    rw [List.length_take] at this
    omega
   have mW : ∀ h : Int, intBits h <= 250000 -> IntMulOk (twn (p * h) (q * bt)) bt := fun h hh => IntMulOk.of_le (j1d q1 b1 hpq hh).2 bb (by decide)
   have fin : ∀ (h : Int) (H3 : Hp), h = heard L n -> a6j kn H2 H3 -> H3 kn = some (.lst (L.map V.int ++ [.int (y + twn (p * h) (q * bt) * bt)])) -> ∀ v5 v6 v7, Pv (i + 1) [some (.ref o), some (.ref st), some (.ref x), some (.int bt), some (.ref kn), v5, v6, v7] H3 := by
    intro h H3 eh B3 h3 v5 v6 v7
    refine pin _ _ _ ⟨_, _, _, rfl, S2.step n1' B3, ?_⟩
    rw [h3, ea, List.map_append, eh]
    rfl
   walk_at "rd*"
   split
   ·rename_i hc
    refine ⟨.int (L.getD (L.length - n) 0), ?_, IntMulOk.of_left bp, IntMulOk.of_left bq, mW _ (c4g bL (by decide) _), by rw [sizeLine_eq]; omega, ?_⟩
    ·rw [<- hl, show ((L.length : Nat) : Int) - (n : Int) = ((L.length - n : Nat) : Int) by omega]
     exact h6h (by omega)
    rintro _ H3 ⟨rfl, B3, h3⟩
    refine fin _ H3 ?_ B3 h3 _ _ _
    unfold heard
    rw [if_pos (by omega)]
   ·rename_i hc
    refine ⟨IntMulOk.of_left bp, IntMulOk.of_left bq, mW 0 (by decide), by rw [sizeLine_eq]; omega, ?_⟩
    rintro _ H3 ⟨rfl, B3, h3⟩
    refine fin 0 H3 ?_ B3 h3 _ _ _
    unfold heard
    rw [if_neg (by omega)]
  ·intro σ H2 hp
   obtain ⟨v5, v6, v7, rfl, S2, h2⟩ := pout _ _ _ hp
   rw [List.length_map, List.take_of_length_le (Nat.le_refl _)] at h2
   have hz2 := S2 _ _ hz
   have ho2 := S2 _ _ ho
   have hl := c0z p q bt n xs zs
   clear hp h1 hx1 ho hg hx hz
   walk_at "rd*"
   intro ou H3 n3 S3 h3
   rw [c0m, a5v] at h3
   have h23 := S3 _ _ h2
   have ho3 := S3 _ _ ho2
   walk_at "rd*"
   refine ⟨_, rfl, n, rfl, by omega, ?_⟩
   rintro _ H4 ⟨s2, rfl, n4, S4, h4⟩
   walk_at "rd*"
   intro r H5 n5 S5 h5
   exact k r ou s2 H5 (S2.trans (S3.trans (S4.trans S5))) ((S2.trans (S3.trans S4)).free n5) (S2.free n3) h5 (S5 _ _ (S4 _ _ h3)) (S5 _ _ h4)
theorem m5g {a b : List Int} (hl : a.length = b.length) (h : ∀ i, i < a.length -> a.getD i 0 = b.getD i 0) : a = b := by
 apply List.ext_getElem?
 intro i
 by_cases hi : i < a.length
 ·have := h i hi
  rw [List.getD_eq_getElem?_getD, List.getD_eq_getElem?_getD, List.getElem?_eq_getElem hi, List.getElem?_eq_getElem (by omega)] at this
  rw [List.getElem?_eq_getElem hi, List.getElem?_eq_getElem (by omega)]
  simpa using this
 ·rw [List.getElem?_eq_none (by omega), List.getElem?_eq_none (by omega)]
theorem d4j (a b : List Int) (i : Nat) : (a ++ b).getD i 0 = if i < a.length then a.getD i 0 else b.getD (i - a.length) 0 := by
 rw [List.getD_eq_getElem?_getD]
 split
 ·rename_i h
  rw [List.getElem?_append_left h, <- List.getD_eq_getElem?_getD]
 ·rename_i h
  rw [List.getElem?_append_right (by omega), <- List.getD_eq_getElem?_getD]
theorem j1e (a : List Int) (k i : Nat) : (a.drop k).getD i 0 = a.getD (k + i) 0 := by
 rw [List.getD_eq_getElem?_getD, List.getElem?_drop, <- List.getD_eq_getElem?_getD]
theorem k5e {xs ys : List Int} {k : Nat} (h : k <= xs.length) : xs.drop k ++ ys = (xs ++ ys).drop k := (List.drop_append_of_le_length h).symm
theorem h2m {xs ys : List Int} {N k : Nat} (hk : k <= N) : j0v (xs.drop (xs.length - N) ++ ys) (xs.drop (xs.length - N)).length k = j0v (xs ++ ys) xs.length k := by
 refine m5g (by rw [c2v, c2v]; simp) fun i hi => ?_
 rw [c2v, List.length_append] at hi
 rw [h0b (by rw [List.length_append]; omega), h0b (by rw [List.length_append]; omega), k5e (by omega), List.length_drop, j1e]
 by_cases h1 : k <= xs.length + i
 ·by_cases h2 : N <= xs.length
  ·rw [if_pos h1, if_pos (by omega)]
   congr 1
   omega
  ·have e : xs.length - N = 0 := by omega
   rw [e, if_pos h1, if_pos (by omega)]
   congr 1
   omega
 ·rw [if_neg h1, if_neg (by omega)]
theorem h2n (xs ys : List Int) (N : Nat) : (xs.drop (xs.length - N) ++ ys).drop ((xs.drop (xs.length - N) ++ ys).length - N) = (xs ++ ys).drop ((xs ++ ys).length - N) := by
 rw [k5e (by omega), List.drop_drop, List.length_drop, List.length_append]
 congr 1
 omega
theorem i0z (p q b : Int) (n : Nat) : ∀ (ys W zs : List Int), (n <= zs.length \/ W = []) -> hallL p q b n (W ++ zs) ys = W ++ hallL p q b n zs ys
 | [], W, zs, _ => rfl
 | y :: ys, W, zs, h => by
  have e : heard (W ++ zs) n = heard zs n := by
   rcases h with h | h
   ·unfold heard
    rw [if_pos (by rw [List.length_append]; omega), if_pos h, d4j, if_neg (by rw [List.length_append]; omega)]
    congr 1
    rw [List.length_append]
    omega
   ·rw [h, List.nil_append]
  rw [hallL, hallL, e, List.append_assoc, i0z p q b n ys W _ (h.elim (fun z => .inl (by rw [List.length_append]; omega)) .inr)]
theorem a4z (d : Dt) (b S : Int) (ss : List Rat) (xs ys : List Int) : (outs d b S ss xs ys).length = ys.length := by unfold outs; simp
theorem c2w {d : Dt} {b S : Int} {ss : List Rat} {xs ys : List Int} {i : Nat} (h : i < ys.length) : (outs d b S ss xs ys).getD i 0 = g0t b S ss (xs ++ ys) (xs.length + i) d := by
 unfold outs
 rw [List.getD_eq_getElem?_getD, List.getElem?_map, List.getElem?_range h]
 rfl
theorem k7d (p q b : Int) (n : Nat) (xs ys : List Int) {i : Nat} (h : i < xs.length) : (hallL p q b n [] (xs ++ ys)).getD i 0 = (hallL p q b n [] xs).getD i 0 := by
 obtain ⟨zs, e, _⟩ := h2j p q b n ys (hallL p q b n [] xs)
 rw [f0m, e, d4j, if_pos (by rw [c0z]; simpa using h)]
theorem l5c (d : Dt) (b S : Int) (ss : List Rat) {xs ys : List Int} {i : Nat} (h : i < xs.length) : g0t b S ss (xs ++ ys) i d = g0t b S ss xs i d := by
 have g : ∀ j, j <= i -> (xs ++ ys).getD j 0 = xs.getD j 0 := fun j hj => by rw [d4j, if_pos (by omega)]
 have g2 : ∀ n, (if n <= i then (xs ++ ys).getD (i - n) 0 else 0) = if n <= i then xs.getD (i - n) 0 else 0 := fun n => by
  rw [g _ (by omega)]
 cases d with
 | gain y => simp only [g0t, g i (Nat.le_refl _)]
 | delay n => simp only [g0t, g2]
 | echo y n t => simp only [g0t, g2]
 | back y n => simp only [g0t, g2, g i (Nat.le_refl _)]
 | hall y n => exact k7d _ _ _ _ _ _ h
 | swell cs => simp only [g0t, g i (Nat.le_refl _)]
theorem l8t (d : Dt) (b S : Int) (ss : List Rat) (xs ys zs : List Int) : outs d b S ss xs (ys ++ zs) = outs d b S ss xs ys ++ outs d b S ss (xs ++ ys) zs := by
 refine m5g (by rw [List.length_append, a4z, a4z, a4z, List.length_append]) fun i hi => ?_
 rw [a4z, List.length_append] at hi
 rw [c2w (by rw [List.length_append]; exact hi), d4j, a4z]
 split
 ·rename_i h
  rw [c2w h, <- List.append_assoc, l5c (h := by rw [List.length_append]; omega)]
 ·rename_i h
  rw [c2w (by omega), <- List.append_assoc, List.length_append]
  congr 1
  omega
theorem i1a {X Y : Nat -> Int} {p q : Int} {t : Nat} : ∀ {j : Nat}, (∀ m, m < j -> X m = Y m) -> i0t X p q t j = i0t Y p q t j
 | 0, _ => rfl
 | j + 1, h => by rw [i0t, i0t, i1a (fun m hm => h m (by omega)), h j (by omega)]
theorem m0x {S t : Int} : ∀ {cs : List (Int × Rat)} {ss : List Rat} {m : Nat} {c : Int × Rat} {s : Rat}, (∀ (i : Nat) c d, cs[i]? = some c -> cs[i + 1]? = some d -> c.1 < d.1) -> m0u cs ss t m c s -> h2b S t cs ss = g2u S t c s
 | [], ss, m, c, s, _, L => by
  have := L.1
  simp at this
 | c0 :: cs, [], m, c, s, _, L => by
  have := L.2.1
  simp at this
 | c0 :: cs, s0 :: ss, 0, c, s, _, L => by
  obtain ⟨l1, l2, l3, l4⟩ := L
  simp at l1 l2
  subst l1 l2
  unfold h2b
  cases cs with
  | nil => rfl
  | cons d r =>
   rw [List.getElem?_cons_succ] at l4
   have := l4 d rfl
   show (if t < d.1 then _ else _) = _
   rw [if_pos this]
 | c0 :: cs, s0 :: ss, m + 1, c, s, O, L => by
  obtain ⟨l1, l2, l3, l4⟩ := L
  rw [List.getElem?_cons_succ] at l1 l2
  have O' : ∀ (i : Nat) c d, cs[i]? = some c -> cs[i + 1]? = some d -> c.1 < d.1 := fun i c d h1 h2 => O (i + 1) c d (by rw [List.getElem?_cons_succ]; exact h1) (by rw [List.getElem?_cons_succ]; exact h2)
  have ct : c.1 <= t := by
   rcases l3 with z | z
   ·omega
   ·exact z
  have ih := m0x (S := S) (t := t) (cs := cs) (ss := ss) (m := m) O' ⟨l1, l2, .inr ct, fun d hd => l4 d (by rw [List.getElem?_cons_succ]; exact hd)⟩
  unfold h2b
  cases cs with
  | nil => simp at l1
  | cons d r =>
   have mono : ∀ (k : Nat) e, (d :: r)[k]? = some e -> d.1 <= e.1 := fun k => by
    induction k with
    | zero => intro e he; simp at he; rw [he]; exact Int.le_refl _
    | succ k ih2 =>
     intro e he
     have hk := (List.getElem?_eq_some_iff.mp he).1
     have h1 : (d :: r)[k]? = some ((d :: r)[k]'(by omega)) := List.getElem?_eq_getElem _
     have := O' k _ e h1 he
     have := ih2 _ h1
     omega
   have := mono m c l1
   show (if t < d.1 then _ else _) = _
   rw [if_neg (by omega)]
   exact ih
theorem FsS.same {H H' : Hp} {fs : List (Str × V)} {S : Int} {ss : List Rat} {d : Dt} (h : FsS H fs S ss d) (Z : Same H H') : FsS H' fs S ss d := by
 cases d with
 | swell cs => obtain ⟨ct, ln, us, ps, e, h1, h2, h3, h4, h5⟩ := h; exact ⟨ct, ln, us, ps, e, Z _ _ h1, Z _ _ h2, h3.same Z, h4, h5.same Z⟩
 | gain y => exact l4c.same (d := .gain y) h Z
 | delay n => exact l4c.same (d := .delay n) h Z
 | echo y n t => exact l4c.same (d := .echo y n t) h Z
 | back y n => exact l4c.same (d := .back y n) h Z
 | hall y n => exact l4c.same (d := .hall y n) h Z
theorem g2v.same {A : Ad} {H H' : Hp} {o : Addr} {d : Dt} {S : Int} {ss : List Rat} (h : g2v A H o d S ss) (Z : Same H H') : g2v A H' o d S ss := by
 obtain ⟨dx, fs, h1, h2⟩ := h
 exact ⟨dx, fs, Z _ _ h1, h2.same Z⟩
theorem g2v.isP {A : Ad} {H : Hp} {o : Addr} {d : Dt} {S : Int} {ss : List Rat} (h : g2v A H o d S ss) : IsP A H o d := by
 obtain ⟨dx, fs, h1, h2⟩ := h
 refine ⟨dx, fs, h1, ?_⟩
 cases d with
 | swell cs => obtain ⟨ct, ln, us, ps, e, h1, h2, h3, h4, h5⟩ := h2; exact ⟨ct, ln, S, ss, us, ps, e, h1, h2, h3, h4, h5⟩
 | _ => exact h2
theorem IsP.pick {A : Ad} {H : Hp} {o : Addr} {d : Dt} (h : IsP A H o d) : ∃ S ss, g2v A H o d S ss := by
 obtain ⟨dx, fs, h1, h2⟩ := h
 cases d with
 | swell cs => obtain ⟨ct, ln, S, ss, us, ps, e, h3, h4, h5, h6, h7⟩ := h2; exact ⟨S, ss, dx, fs, h1, ct, ln, us, ps, e, h3, h4, h5, h6, h7⟩
 | _ => exact ⟨0, [], dx, fs, h1, h2⟩
theorem StV.same {H H' : Hp} {b : Int} {xs : List Int} {st : V} {d : Dt} (h : StV H b xs st d) (Z : Same H H') : StV H' b xs st d := by
 cases d with
 | gain y => exact h
 | delay n => obtain ⟨p, e, h⟩ := h; exact ⟨p, e, Z _ _ h⟩
 | echo y n t => obtain ⟨p, e, h⟩ := h; exact ⟨p, e, Z _ _ h⟩
 | back y n => obtain ⟨p, e, h⟩ := h; exact ⟨p, e, Z _ _ h⟩
 | hall y n => obtain ⟨p, e, h⟩ := h; exact ⟨p, e, Z _ _ h⟩
 | swell cs => exact h
theorem c9t {k : Nat} {f : Addr} {fd : FuncData} {ps : List Str} {sp sp' : Sp} (F : a1s P A.wd K mg base CX0 k f fd ps sp) (h : ∀ vs H Q E, sp' vs H Q E -> sp vs H Q E) : a1s P A.wd K mg base CX0 k f fd ps sp' :=
 ⟨fun vs H Q E z => F.len vs H Q E (h _ _ _ _ z), fun A outer s H args us vs Q E hr e0 hb hv z => F.run A outer s H args us vs Q E hr e0 hb hv (h _ _ _ _ z)⟩
theorem getD_at (xs ys : List Int) (i : Nat) : (xs ++ ys).getD (xs.length + i) 0 = ys.getD i 0 := by
 rw [d4j, if_neg (by omega)]
 congr 1
 omega
theorem l5d (y : Rat) (b S : Int) (ss : List Rat) (xs ys : List Int) : outs (.gain y) b S ss xs ys = ys.map (· * y.num) := by
 refine m5g (by rw [a4z, List.length_map]) fun i hi => ?_
 rw [a4z] at hi
 rw [c2w hi, f3v]
 show (xs ++ ys).getD (xs.length + i) 0 * y.num = _
 rw [getD_at]
theorem k7e (n : Nat) (b S : Int) (ss : List Rat) (xs ys : List Int) : outs (.delay n) b S ss xs ys = j0v (xs ++ ys) xs.length n := by
 unfold outs j0v
 rw [List.length_append, Nat.add_sub_cancel_left]
 rfl
theorem l5e (y : Rat) (n t : Nat) (b S : Int) (ss : List Rat) (xs ys : List Int) : outs (.echo y n t) b S ss xs ys = l6m (xs.drop (xs.length - n * t) ++ ys) (xs.drop (xs.length - n * t)).length n y.num y.den t (t + 1) := by
 refine m5g (by rw [a4z, l8n, List.length_append]; omega) fun i hi => ?_
 rw [a4z] at hi
 rw [c2w hi, k5b (by rw [List.length_append]; omega)]
 show i0t _ _ _ _ _ = _
 refine i1a fun m hm => ?_
 have le : m * n <= n * t := by
  rw [Nat.mul_comm n t]
  exact Nat.mul_le_mul_right n (by omega)
 show (if m * n <= xs.length + i then (xs ++ ys).getD (xs.length + i - m * n) 0 else 0) = _
 rw [h2m le, h0b (by rw [List.length_append]; omega)]
theorem l5f (y : Rat) (n : Nat) (b S : Int) (ss : List Rat) (xs ys : List Int) : outs (.back y n) b S ss xs ys = l6k (ys.map (· * (y.den : Int))) ((j0v (xs ++ ys) xs.length n).map (· * (-y.num))) := by
 refine m5g (by rw [a4z, i3t, List.length_map, List.length_map, c2v, List.length_append]; omega) fun i hi => ?_
 rw [a4z] at hi
 rw [c2w hi, k4y (by rw [List.length_map]; omega), f3v, f3v, h0b (by rw [List.length_append]; omega)]
 show (xs ++ ys).getD (xs.length + i) 0 * _ + _ = _
 rw [getD_at]
theorem l5g (y : Rat) (n : Nat) (b S : Int) (ss : List Rat) (xs ys : List Int) : outs (.hall y n) b S ss xs ys = (hallL y.num y.den b n (hallL y.num y.den b n [] xs) ys).drop xs.length := by
 have l1 := c0z y.num y.den b n xs []
 have l2 := c0z y.num y.den b n ys (hallL y.num y.den b n [] xs)
 rw [List.length_nil, Nat.zero_add] at l1
 refine m5g (by rw [a4z, List.length_drop, l2, l1]; omega) fun i hi => ?_
 rw [a4z] at hi
 rw [c2w hi, j1e, <- f0m]
 rfl
theorem j1f (T : Tx K mg A) : a1s P A.wd K mg base CX0 2 A.a4i A.b5u ["self", "state", "tops", "bottom"] (g2w A 0) := c9t (m3o T) fun vs H Q E h => by
 match vs, h with
 | [.ref o, st, .ref l, .int b], ⟨d, S, ss, xs, ys, hk, hp, ok, hst, hl, lx, ly, b1, bb, by0, q⟩ =>
  cases d with
  | gain y =>
   obtain ⟨p, rfl⟩ := hst
   obtain ⟨dx, _, ho, g, rfl, hg⟩ := hp
   have yb := YOk.b ok
   exact ⟨y.num, y.den, ys, ⟨dx, g, ho, hg⟩, hl, by omega, fun z hz => IntMulOk.of_right (by omega), fun r ou s2 H1 S1 nr no h1 h2 => q r ou _ H1 S1 nr no h1 (by rw [h2, l5d]) ⟨s2, rfl⟩⟩
  | _ => simp [Dt.kd] at hk
theorem i1b (T : Tx K mg A) : a1s P A.wd K mg base CX0 2 A.a3s A.b3o ["self", "state", "tops", "bottom"] (g2w A 1) := c9t (m3p T) fun vs H Q E h => by
 match vs, h with
 | [.ref o, st, .ref l, .int b], ⟨d, S, ss, xs, ys, hk, hp, ok, hst, hl, lx, ly, b1, bb, by0, q⟩ =>
  cases d with
  | delay n =>
   obtain ⟨p, rfl, hs⟩ := hst
   obtain ⟨dx, _, ho, rfl⟩ := hp
   exact ⟨n, _, ys, ⟨dx, ho⟩, hs, hl, by rw [List.length_drop]; omega, by omega, fun r ou s2 H1 S1 nr no h1 h2 h3 => q r ou _ H1 S1 nr no h1 (by rw [h2, k7e, h2m (Nat.le_refl _)]) ⟨s2, rfl, by rw [h3, h2n]⟩⟩
  | _ => simp [Dt.kd] at hk
theorem j1g (T : Tx K mg A) : a1s P A.wd K mg base CX0 2 A.a4j A.b5v ["self", "state", "tops", "bottom"] (g2w A 2) := c9t (m3m T) fun vs H Q E h => by
 match vs, h with
 | [.ref o, st, .ref l, .int b], ⟨d, S, ss, xs, ys, hk, hp, ok, hst, hl, lx, ly, b1, bb, by0, q⟩ =>
  cases d with
  | echo y n t =>
   obtain ⟨p, rfl, hs⟩ := hst
   obtain ⟨dx, _, ho, g, fa, rfl, hg, hf⟩ := hp
   obtain ⟨oy, n1, n2, t2⟩ := ok
   have yb := oy.b
   refine ⟨y.num, y.den, n, t, _, ys, ⟨dx, g, fa, ho, hg, hf⟩, hs, hl, by rw [List.length_drop]; omega, by omega, by omega, t2, yb.1, yb.2, fun z hz => ?_, fun r ou s2 H1 S1 nr no h1 h2 h3 => q r ou _ H1 S1 nr no h1 (by rw [h2, l5e]) ⟨s2, rfl, by rw [h3, h2n]⟩⟩
   refine Nat.le_trans (by0 z ?_) (by decide)
   rcases List.mem_append.mp hz with h | h
   ·exact List.mem_append_left _ (List.mem_of_mem_drop h)
   ·exact List.mem_append_right _ h
  | _ => simp [Dt.kd] at hk
theorem j1h (T : Tx K mg A) : a1s P A.wd K mg base CX0 2 A.a4k A.b5w ["self", "state", "tops", "bottom"] (g2w A 3) := c9t (m3q T) fun vs H Q E h => by
 match vs, h with
 | [.ref o, st, .ref l, .int b], ⟨d, S, ss, xs, ys, hk, hp, ok, hst, hl, lx, ly, b1, bb, by0, q⟩ =>
  cases d with
  | back y n =>
   obtain ⟨p, rfl, hs⟩ := hst
   obtain ⟨dx, _, ho, g, rfl, hg⟩ := hp
   obtain ⟨oy, n1, n2⟩ := ok
   have yb := oy.b
   have nb := intBits_neg_le yb.1
   exact ⟨dx, g, n, y.num, y.den, _, ys, ho, hg, hs, hl, by rw [List.length_drop]; omega, by omega, fun z hz => IntMulOk.of_right (by omega), fun z hz => IntMulOk.of_right (by omega), fun z hz => IntMulOk.of_right (by omega), IntMulOk.of_left (by decide), fun r ou s2 H1 S1 nr no n2' h1 h2 h3 => q r ou _ H1 S1 nr no h1 (by rw [h2, l5f, h2m (Nat.le_refl _)]) ⟨s2, rfl, by rw [h3, h2n]⟩⟩
  | _ => simp [Dt.kd] at hk
theorem j1i (T : Tx K mg A) : a1s P A.wd K mg base CX0 2 A.a4l A.b5y ["self", "state", "tops", "bottom"] (g2w A 4) := c9t (m3r T) fun vs H Q E h => by
 match vs, h with
 | [.ref o, st, .ref l, .int b], ⟨d, S, ss, xs, ys, hk, hp, ok, hst, hl, lx, ly, b1, bb, by0, q⟩ =>
  cases d with
  | hall y n =>
   obtain ⟨p, rfl, hs⟩ := hst
   obtain ⟨dx, _, ho, g, rfl, hg⟩ := hp
   obtain ⟨oy, yl, n1, n2⟩ := ok
   have yb := oy.b
   have dp := y.den_pos
   have l1 := c0z y.num y.den b n xs []
   rw [List.length_nil, Nat.zero_add] at l1
   have l2 := c0z y.num y.den b n ys (hallL y.num y.den b n [] xs)
   have e : hallL y.num y.den b n (hallL y.num y.den b n [] xs) ys = (hallL y.num y.den b n [] xs).take (xs.length - n) ++ hallL y.num y.den b n ((hallL y.num y.den b n [] xs).drop (xs.length - n)) ys := by
    rw [<- i0z, List.take_append_drop]
    rcases Nat.lt_or_ge xs.length n with z | z
    ·refine .inr ?_
     rw [show xs.length - n = 0 by omega, List.take_zero]
    ·refine .inl ?_
     rw [List.length_drop]
     omega
   have l3 := c0z y.num y.den b n ys ((hallL y.num y.den b n [] xs).drop (xs.length - n))
   rw [List.length_drop, l1] at l3
   have lt : ((hallL y.num y.den b n [] xs).take (xs.length - n)).length = xs.length - n := by rw [List.length_take]; omega
   have d1 : ∀ (a c : List Int) (k : Nat), a.length <= k -> (a ++ c).drop k = c.drop (k - a.length) := fun a c k hk => by
    rw [List.drop_append, List.drop_of_length_le hk, List.nil_append]
   refine ⟨dx, g, n, y.num, y.den, _, ys, ho, hg, hs, hl, by rw [List.length_drop]; omega, by omega, n1, by omega, b1, by omega, by omega, bb, Int.le_of_lt yl, (fun z hz => Nat.le_trans (f3y (by omega) b1 (Int.le_of_lt yl) xs [] 100000 (by decide) (fun _ h => by cases h) (fun w hw => by0 w (List.mem_append_left _ hw)) z (List.mem_of_mem_drop hz)) (by omega)), (fun z hz => Nat.le_trans (by0 z (List.mem_append_right _ hz)) (by decide)), fun r ou s2 H1 S1 nr no h1 h2 h3 => q r ou _ H1 S1 nr no h1 (by
    rw [h2, l5g, e, d1 _ _ _ (by omega), lt, List.length_drop, l1]) ⟨s2, rfl, by
    rw [h3, f0m, e, d1 _ _ _ (by rw [lt, List.length_append]; omega), lt, l3, List.length_append]
    congr 4
    omega⟩⟩
  | _ => simp [Dt.kd] at hk
theorem m3s (T : Tx K mg A) : a1s P A.wd K mg base CX0 3 A.a3t A.b3p ["self", "state", "tops", "bottom"] (l4i A.a2n) := by
 have h2o : a1s P A.wd K mg base CX0 2 _ _ _ _ := l4z T
 have a2i := T.a2i
 have a0q := T.a0q
 have a0s := T.a0s
 have a1g := T.a1g
 refine T.b6o.ok d7g (fun vs H Q E h => ?_) (fun cdv A' outer s H vs Q E hr h => ?_)
 ·obtain ⟨_, _, _, _, rfl, _⟩ := l3j (by unfold l4i at h; exact h)
  rfl
 ·obtain ⟨o, n0, x, bt, rfl, ⟨ps, cs, ss, S, m0, xs, e0, I, O, CO, L1, L12, hx, ml, xl, xb, k⟩⟩ := l3j (by unfold l4i at h; exact h)
  subst e0
  have hu := hr.units
  have g6z : a2q 2 _ := hr.mono (by decide)
  refine ⟨_, (a0i (l7u (i := 4) d7g.nd rfl rfl (m2d (by rfl) T.c5j (a0g (pvF 2) a0j) (m1i (pvF 1) m6g)) (fun _ _ _ _ _ => (a1i a3l (a8y (pvF 2) T.a2i T.g6t h2o g6z T.c4w .nil a0p (a0g (pvF 0) a0j)) (pvF 1))) (m0o (sc := a0h a5w) (N := ["self", "state", "tops", "bottom", "out"]) rfl rfl (by decide +kernel)) rfl)
   (a0l (a1k (a8w (a0g (pvF 4) (a0g (a1i a2g (pvF 1) (a1p a2r (by rfl) T.b3i boot_len (a0g (pvF 2) a0j))) a0j)))))), ?_⟩
  walk_at "rd*"
  refine ⟨by omega, by omega, ?_⟩
  intro D H2 n2 S2 h2
  refine j7i (xs := xs.map V.int) (fun i zs H' => Same H H' /\ H' D = some (.lst zs) /\ zs = ((List.range i).map fun j => h2b S ((m0 + j : Nat) : Int) cs ss * xs.getD j 0).map V.int) ⟨S2, h2, rfl⟩ (by rw [List.length_map, sizeLine_eq]; omega) ?_ ?_ ?_
  ·intro i zs H' hi ⟨S', h', ez⟩
   exact ⟨h', SqL.of (S' _ _ hx), by rw [ez, List.length_map, List.length_map, List.length_range]⟩
  ·intro i x' zs H' p H'' hx' ⟨S', h', ez⟩ np S'' h''
   rw [List.getElem?_map] at hx'
   obtain ⟨xi, hxi, rfl⟩ := Option.map_eq_some_iff.mp hx'
   have hi := (List.getElem?_eq_some_iff.mp hxi).1
   have SS := S'.trans S''
   have I' := I.same SS
   have hD' := S'' _ _ h'
   have xbi := xb xi (List.mem_of_getElem? hxi)
   obtain ⟨dx, ct, ln, us, ho, _⟩ := id I'
   unfold swF at ho
   clear hx h2 h'
   walk_at "rd*"
   refine ⟨ps, cs, ss, S, I', O, CO, L1, L12, by omega, by omega, fun m c s' LA bg => ?_⟩
   refine ⟨IntMulOk.of_le bg xbi (by decide), fun H4 B4 h4 => ⟨SS.step n2 B4, h4, ?_⟩⟩
   rw [List.range_succ, List.map_append, List.map_append, <- ez]
   have e1 := m0x (S := S) CO.2 LA
   have e2 : xs.getD i 0 = xi := by rw [List.getD_eq_getElem?_getD, hxi]; rfl
   show _ = _ ++ [V.int (h2b S ((m0 + i : Nat) : Int) cs ss * xs.getD i 0)]
   rw [e2, Int.natCast_add, e1]
  ·intro zs H3 ⟨S3, h3, ez⟩
   rw [List.length_map] at ez
   have hx3 := S3 _ _ hx
   clear hx h2
   walk_at "rd*"
   refine fun r H4 n4 S4 h4 => k r D H4 (S3.trans S4) (S3.free n4) n2 (by rw [h4, Int.natCast_add]) (S4 _ _ (by rw [h3, ez]))
theorem i1c (T : Tx K mg A) : a1s P A.wd K mg base CX0 3 A.a3t A.b3p ["self", "state", "tops", "bottom"] (g2w A 5) := c9t (m3s T) fun vs H Q E h => by
 match vs, h with
 | [.ref o, st, .ref l, .int b], ⟨d, S, ss, xs, ys, hk, hp, ok, hst, hl, lx, ly, b1, bb, by0, q⟩ =>
  cases d with
  | swell cs =>
   have hst : st = V.int (xs.length : Int) := hst
   subst hst
   obtain ⟨dx, _, ho, ct, ln, us, ps, rfl, hct, hln, TP, sok, R⟩ := hp
   have ok : j6t cs := ok
   refine ⟨ps, cs, ss, S, xs.length, ys, rfl, ⟨dx, ct, ln, us, ho, hct, hln, TP, R⟩, sok, j6t.crn ok, ok.2.2.1, ok.2.2.2, hl, lx, ly, fun y hy => by0 y (List.mem_append_right _ hy), fun r ou H1 S1 nr no h1 h2 => q r ou _ H1 S1 nr no h1 ?_ (by show _ = V.int _; rw [List.length_append])⟩
   rw [h2]
   refine congrArg (fun z => some (HO.lst (List.map V.int z))) ?_
   unfold outs
   refine List.map_congr_left fun i _ => ?_
   show _ = h2b S ((xs.length + i : Nat) : Int) cs ss * (xs ++ ys).getD (xs.length + i) 0
   rw [getD_at]
  | _ => simp [Dt.kd] at hk
theorem g0w (T : Tx K mg A) : a1s P A.wd K mg base CX0 1 A.a6r A.c2h ["self"] (g6v A 0) := c9t (l5a T) fun vs H Q E h => by
 match vs, h with
 | [.ref o], ⟨d, S, ss, hk, hp, q⟩ =>
  cases d with
  | gain y =>
   obtain ⟨dx, _, ho, g, rfl, hg⟩ := hp
   exact ⟨y.num, y.den, ⟨dx, g, ho, hg⟩, q⟩
  | _ => simp [Dt.kd] at hk
theorem g0x (T : Tx K mg A) : a1s P A.wd K mg base CX0 1 A.a6s A.c2i ["self"] (g6v A 2) := c9t (l4t T) fun vs H Q E h => by
 match vs, h with
 | [.ref o], ⟨d, S, ss, hk, hp, q⟩ =>
  cases d with
  | echo y n t =>
   obtain ⟨dx, _, ho, g, fa, rfl, hg, hf⟩ := hp
   exact ⟨y.num, y.den, n, t, ⟨dx, g, fa, ho, hg, hf⟩, q⟩
  | _ => simp [Dt.kd] at hk
theorem g0y (T : Tx K mg A) : a1s P A.wd K mg base CX0 1 A.a6t A.c2j ["self"] (g6v A 3) := c9t (l5b T) fun vs H Q E h => by
 match vs, h with
 | [.ref o], ⟨d, S, ss, hk, hp, q⟩ =>
  cases d with
  | back y n =>
   obtain ⟨dx, _, ho, g, rfl, hg⟩ := hp
   exact ⟨dx, g, n, y.num, y.den, ho, hg, q⟩
  | _ => simp [Dt.kd] at hk
theorem f3z (T : Tx K mg A) : a1s P A.wd K mg base CX0 1 A.a5o A.b9m ["self"] (g6v A 5) := c9t (k7b T) fun vs H Q E h => by
 match vs, h with
 | [.ref o], ⟨d, S, ss, hk, hp, q⟩ =>
  cases d with
  | swell cs =>
   obtain ⟨dx, _, ho, ct, ln, us, ps, rfl, hct, hln, TP, sok, R⟩ := hp
   exact ⟨ps, cs, ss, S, ⟨dx, ct, ln, us, ho, hct, hln, TP, R⟩, q⟩
  | _ => simp [Dt.kd] at hk
theorem l8u {d : Dt} (hk : d.kd ≠ 5) {H : Hp} {p : Addr} (h : H p = some (.tup [])) (b : Int) : StV H b [] (.ref p) d := by
 cases d with
 | swell => exact absurd rfl hk
 | gain => exact ⟨p, rfl⟩
 | delay => exact ⟨p, rfl, by rw [List.drop_nil]; exact h⟩
 | echo => exact ⟨p, rfl, by rw [List.drop_nil]; exact h⟩
 | back => exact ⟨p, rfl, by rw [List.drop_nil]; exact h⟩
 | hall => exact ⟨p, rfl, by rw [hallL, List.drop_nil]; exact h⟩
theorem l5h (T : Tx K mg A) : a1s P A.wd K mg base CX0 4 A.b3w A.d9g ["text"] n2l := by
 have h2p : a1s P A.wd K mg base CX0 3 _ _ _ _ := m3f T
 refine T.a9n.ok g5m (fun vs H Q E h => ?_) (fun cdv A' outer s H vs Q E hr h => ?_)
 ·obtain ⟨_, rfl, _⟩ := k4n (by unfold n2l at h; exact h)
  rfl
 ·obtain ⟨x, rfl, ⟨y, hx, oy, k⟩⟩ := k4n (by unfold n2l at h; exact h)
  subst hx
  have hu := hr.units
  have g7a : a2q 3 _ := hr.mono (by decide)
  refine ⟨_, (a0i (m2e (a1j (i := 1) g5m.nd rfl (Or.inl rfl) (a0r h2p g7a (by rfl) T.h1i T.b1q.kp T.c4q .nil a0p (a0g (pvF 0) a0j))))
   (a0i (a6k (pw_or (a2l i9q (a1p c0k (by rfl) T.g6r boot_abs (a0g (a1o a3q (pvF 1) a0k (fun _ _ => rfl)) a0j)) (b0p (v := .int 1000) (by rfl) T.b5i T.g5s) (a2v _)) (pw_or1 (a2l i9q (a1o a3q (pvF 1) a0k (fun _ _ => rfl)) (b0p (v := .int 1000) (by rfl) T.b5i T.g5s) (a2v _)))).pt
   (a0l a6h)
   a2m)
   (a0l (a1k (pvF 1))))), ?_⟩
  walk_at "rd"
  refine ⟨y.num, (y.den : Int), m2i oy, ?_⟩
  rintro _ H1 ⟨o, rfl, n1, S1, h1⟩
  have y1 : ¬ 1000 < (y.num.natAbs : Int) := by have := oy.1; omega
  have y2 : ¬ 1000 < (y.den : Int) := by have := oy.2; omega
  walk_at "rd*"
  exact k _ _ ⟨o, rfl, n1, S1, h1⟩
theorem l8v (T : Tx K mg A) : a1s P A.wd K mg base CX0 3 A.a9h A.c9l ["text", "least", "most"] n2m := by
 have k7f : a1s P A.wd K mg base CX0 2 _ _ _ _ := m8v T
 refine T.a6y.ok f4n (fun vs H Q E h => ?_) (fun cdv A' outer s H vs Q E hr h => ?_)
 ·obtain ⟨_, _, _, rfl, _⟩ := m0r (by unfold n2m at h; exact h)
  rfl
 ·obtain ⟨x, a, b, rfl, ⟨n, hx, hn, h1, h2, q⟩⟩ := m0r (by unfold n2m at h; exact h)
  have hu := hr.units
  have j8v : a2q 2 _ := hr.mono (by decide)
  refine ⟨_, (a0i (a1j (i := 3) f4n.nd rfl (Or.inl rfl) (a0r k7f j8v (by rfl) T.k6o T.d1o.kp T.g2j .nil a0p (a0g (pvF 0) a0j)))
   (a0i (a6k (pw_or (a2l l9s (pvF 3) h0g (a2v _)) (pw_or (a2l of_lt (pvF 3) (pvF 1) (a2v _)) (pw_or1 (a2l i9q (pvF 3) (pvF 2) (a2v _))))).pt
   (a0l a6h)
   a2m)
   (a0l (a1k (pvF 3))))), ?_⟩
  walk_at "rd"
  refine ⟨n, hx, hn, ?_⟩
  have z1 : ¬ (n : Int) < a := by omega
  have z2 : ¬ b < (n : Int) := by omega
  walk_at "rd*"
theorem m3t (T : Tx K mg A) : a1s P A.wd K mg base CX0 4 A.b3y A.d9h ["text"] n2n := by
 have a9t : a1s P A.wd K mg base CX0 3 _ _ _ _ := l8v T
 refine T.b4i.ok j0j (fun vs H Q E h => ?_) (fun cdv A' outer s H vs Q E hr h => ?_)
 ·obtain ⟨_, rfl, _⟩ := k4n (by unfold n2n at h; exact h)
  rfl
 ·obtain ⟨x, rfl, ⟨n, hx, n1, n2, q⟩⟩ := k4n (by unfold n2n at h; exact h)
  subst hx
  have hu := hr.units
  have a7m : a2q 3 _ := hr.mono (by decide)
  refine ⟨_, (a0l (a1k (a0r a9t a7m (by rfl) T.c2m T.a6y.kp T.b2v .nil a0p (a0g (pvF 0) (a0g a0k (a0g (b0p (v := .int 1000) (by rfl) T.b5j T.g5t) a0j)))))), ?_⟩
  walk_at "rd"
  exact ⟨n, l7x n, by omega, by omega, by omega, q⟩
theorem k7g (T : Tx K mg A) : a1s P A.wd K mg base CX0 1 A.a9i A.c9m ["values", "count"] n2o := by
 refine T.a4m.ok h6l (fun vs H Q E h => ?_) (fun cdv A' outer s H vs Q E hr h => ?_)
 ·obtain ⟨_, _, rfl, _⟩ := f4i (by unfold n2o at h; exact h)
  rfl
 ·obtain ⟨l, c, rfl, ⟨xs, hl, e, q⟩⟩ := f4i (by unfold n2o at h; exact h)
  have hu := hr.units
  refine ⟨_, (a0l (a6k (a2l (c7p hu) (a1p a2r (by rfl) T.b3i boot_len (a0g (pvF 0) a0j)) (pvF 1) (a2v _))
   (a0l a6h)
   a2m)), ?_⟩
  walk_at "rd*"
theorem k7h (T : Tx K mg A) : a1s P A.wd K mg base CX0 6 A.b5z A.g2d ["values"] (i8z A 0) := by
 have a3u : a1s P A.wd K mg base CX0 1 _ _ _ _ := k7g T
 have a9u : a1s P A.wd K mg base CX0 4 _ _ _ _ := l5h T
 have j8w : a1s P A.wd K mg base CX0 1 _ _ _ _ := l8o T
 have a2w := T.a2w
 have a1t := T.a1t
 refine T.d9r.ok k6l (fun vs H Q E h => ?_) (fun cdv A' outer s H vs Q E hr h => ?_)
 ·obtain ⟨_, rfl, _⟩ := b7i (by unfold i8z at h; exact h)
  rfl
 ·obtain ⟨l, rfl, ⟨d, hk, ok, hl, q⟩⟩ := b7i (by unfold i8z at h; exact h)
  cases d with
  | gain y =>
   have hu := hr.units
   have a3n : a2q 1 _ := hr.mono (by decide)
   have a7g : a2q 4 _ := hr.mono (by decide)
   have j1j : a2q 2 _ := hr.mono (by decide)
   replace hl : H l = some (.lst [.str (fW y)]) := hl
   refine ⟨_, (a0i (b0q (a0r a3u a3n (by rfl) T.b2w T.a4m.kp T.a6z .nil a0p (a0g (pvF 0) (a0g a0k a0j))))
   (a0l (a1k (c7q T.m8m j8w j1j (by rfl) T.h1u T.f6k .nil a0p (a0g (a0r a9u a7g (by rfl) T.c4y T.a9n.kp T.b4h .nil a0p (a0g (a1o a3q (pvF 0) a0k (fun _ _ => rfl)) a0j)) a0j))))), ?_⟩
   walk_at "rd"
   refine ⟨_, hl, rfl, ?_⟩
   walk_at "rd*"
   refine ⟨y, rfl, ok, ?_⟩
   rintro _ H1 ⟨g, rfl, n1, S1, h1⟩
   walk_at "rd"
   intro x dx H2 n2 n3 nx S2 hdx hx
   refine ⟨dx, hx, fun H3 B3 h3 => ?_⟩
   rw [asNew]
   refine ⟨rfl, ?_⟩
   have gx : g ≠ x := fun e => by rw [e] at h1; rw [h1] at n2; cases n2
   refine q x H3 (S1.free n2) (fun b u e => B3 _ _ (fun z => by rw [z] at e; rw [S1 _ _ e] at n2; cases n2) (S2 _ _ (S1 _ _ e))) ⟨dx, _, h3, g, rfl, B3 _ _ gx (S2 _ _ h1)⟩
  | _ => simp [Dt.kd] at hk
theorem j8x (T : Tx K mg A) : a1s P A.wd K mg base CX0 6 A.b2s A.f5v ["values"] (i8z A 1) := by
 have a3u : a1s P A.wd K mg base CX0 1 _ _ _ _ := k7g T
 have a9t : a1s P A.wd K mg base CX0 3 _ _ _ _ := l8v T
 have j1k : a1s P A.wd K mg base CX0 1 _ _ _ _ := l4x T
 have a2o := T.a2o
 have a1q := T.a1q
 refine T.d1u.ok j7p (fun vs H Q E h => ?_) (fun cdv A' outer s H vs Q E hr h => ?_)
 ·obtain ⟨_, rfl, _⟩ := b7i (by unfold i8z at h; exact h)
  rfl
 ·obtain ⟨l, rfl, ⟨d, hk, ok, hl, q⟩⟩ := b7i (by unfold i8z at h; exact h)
  cases d with
  | delay n =>
   have hu := hr.units
   have a3n : a2q 1 _ := hr.mono (by decide)
   have a7m : a2q 3 _ := hr.mono (by decide)
   have i3y : a2q 2 _ := hr.mono (by decide)
   have ok : n <= 1000 := ok
   replace hl : H l = some (.lst [.str (nW n)]) := hl
   refine ⟨_, (a0i (b0q (a0r a3u a3n (by rfl) T.b2w T.a4m.kp T.a6z .nil a0p (a0g (pvF 0) (a0g a0k a0j))))
   (a0l (a1k (c7q T.m2q j1k i3y (by rfl) T.g0q T.d9m .nil a0p (a0g (a0r a9t a7m (by rfl) T.c2m T.a6y.kp T.b2v .nil a0p (a0g (a1o a3q (pvF 0) a0k (fun _ _ => rfl)) (a0g a0k (a0g (b0p (v := .int 1000) (by rfl) T.b5j T.g5t) a0j)))) a0j))))), ?_⟩
   walk_at "rd"
   refine ⟨_, hl, rfl, ?_⟩
   walk_at "rd*"
   refine ⟨n, l7x n, by omega, by omega, by omega, ?_⟩
   intro x dx H2 n2 n3 nx S2 hdx hx
   refine ⟨dx, hx, fun H3 B3 h3 => ?_⟩
   rw [asNew]
   refine ⟨rfl, ?_⟩
   exact q x H3 n2 (fun b u e => B3 _ _ (fun z => by rw [z] at e; rw [e] at n2; cases n2) (S2 _ _ e)) ⟨dx, _, h3, rfl⟩
  | _ => simp [Dt.kd] at hk
theorem k7i (T : Tx K mg A) : a1s P A.wd K mg base CX0 6 A.b6g A.g2e ["values"] (i8z A 2) := by
 have a3u : a1s P A.wd K mg base CX0 1 _ _ _ _ := k7g T
 have a9u : a1s P A.wd K mg base CX0 4 _ _ _ _ := l5h T
 have c5m : a1s P A.wd K mg base CX0 4 _ _ _ _ := m3t T
 have a9t : a1s P A.wd K mg base CX0 3 _ _ _ _ := l8v T
 have j8y : a1s P A.wd K mg base CX0 2 _ _ _ _ := l8m T
 have a2t := T.a2t
 have a1m := T.a1m
 have a1n := T.a1n
 have a1l := T.a1l
 have a0w := T.a0w
 have a0m := T.a0m
 refine T.d9s.ok k6m (fun vs H Q E h => ?_) (fun cdv A' outer s H vs Q E hr h => ?_)
 ·obtain ⟨_, rfl, _⟩ := b7i (by unfold i8z at h; exact h)
  rfl
 ·obtain ⟨l, rfl, ⟨d, hk, ok, hl, q⟩⟩ := b7i (by unfold i8z at h; exact h)
  cases d with
  | echo y n t =>
   have hu := hr.units
   have a3n : a2q 1 _ := hr.mono (by decide)
   have a7g : a2q 4 _ := hr.mono (by decide)
   have c1g : a2q 4 _ := hr.mono (by decide)
   have a7m : a2q 3 _ := hr.mono (by decide)
   have j1l : a2q 3 _ := hr.mono (by decide)
   obtain ⟨oy, na, nb, tb⟩ := ok
   replace hl : H l = some (.lst [.str (fW y), .str (nW n), .str (nW t)]) := hl
   refine ⟨_, (a0i (b0q (a0r a3u a3n (by rfl) T.b2w T.a4m.kp T.a6z .nil a0p (a0g (pvF 0) (a0g a0k a0j))))
   (a0l (a1k (c7q T.m8n j8y j1l (by rfl) T.h1v T.f6m .nil a0p (a0g (a0r a9u a7g (by rfl) T.c4y T.a9n.kp T.b4h .nil a0p (a0g (a1o a3q (pvF 0) a0k (fun _ _ => rfl)) a0j)) (a0g (a0r c5m c1g (by rfl) T.f6t T.b4i.kp T.c4z .nil a0p (a0g (a1o a3q (pvF 0) a0k (fun _ _ => rfl)) a0j)) (a0g (a0r a9t a7m (by rfl) T.c2m T.a6y.kp T.b2v .nil a0p (a0g (a1o a3q (pvF 0) a0k (fun _ _ => rfl)) (a0g a0k (a0g (b0p (v := .int 16) (by rfl) T.b6u T.i3f) a0j)))) a0j))))))), ?_⟩
   walk_at "rd"
   refine ⟨_, hl, rfl, ?_⟩
   walk_at "rd*"
   refine ⟨y, rfl, oy, ?_⟩
   rintro _ H1 ⟨g, rfl, n1, S1, h1⟩
   have hl1 := S1 _ _ hl
   clear hl
   walk_at "rd*"
   refine ⟨n, rfl, na, nb, t, l7x t, by omega, by omega, by omega, ?_⟩
   intro x dx H2 n2 n3 nx S2 hdx hx
   refine ⟨dx, n, t, y.num, (y.den : Int), rfl, rfl, tb, oy.b.1, oy.b.2, S2 _ _ h1, hx, fun fa H3 B3 nf h3 hf => ?_⟩
   rw [asNew]
   refine ⟨rfl, ?_⟩
   have gx : g ≠ x := fun e => by rw [e] at h1; rw [h1] at n2; cases n2
   exact q x H3 (S1.free n2) (fun b u e => B3 _ _ (fun z => by rw [z] at e; rw [S1 _ _ e] at n2; cases n2) (S2 _ _ (S1 _ _ e))) ⟨dx, _, h3, g, fa, rfl, B3 _ _ gx (S2 _ _ h1), hf⟩
  | _ => simp [Dt.kd] at hk
theorem k7j (T : Tx K mg A) : a1s P A.wd K mg base CX0 6 A.b6h A.g2f ["values"] (i8z A 3) := by
 have a3u : a1s P A.wd K mg base CX0 1 _ _ _ _ := k7g T
 have a9u : a1s P A.wd K mg base CX0 4 _ _ _ _ := l5h T
 have c5m : a1s P A.wd K mg base CX0 4 _ _ _ _ := m3t T
 have j8z : a1s P A.wd K mg base CX0 1 _ _ _ _ := l8p T
 have a2y := T.a2y
 have a1u := T.a1u
 have a1v := T.a1v
 refine T.d9t.ok k6n (fun vs H Q E h => ?_) (fun cdv A' outer s H vs Q E hr h => ?_)
 ·obtain ⟨_, rfl, _⟩ := b7i (by unfold i8z at h; exact h)
  rfl
 ·obtain ⟨l, rfl, ⟨d, hk, ok, hl, q⟩⟩ := b7i (by unfold i8z at h; exact h)
  cases d with
  | back y n =>
   have hu := hr.units
   have a3n : a2q 1 _ := hr.mono (by decide)
   have a7g : a2q 4 _ := hr.mono (by decide)
   have c1g : a2q 4 _ := hr.mono (by decide)
   have j1m : a2q 2 _ := hr.mono (by decide)
   obtain ⟨oy, na, nb⟩ := ok
   replace hl : H l = some (.lst [.str (fW y), .str (nW n)]) := hl
   refine ⟨_, (a0i (b0q (a0r a3u a3n (by rfl) T.b2w T.a4m.kp T.a6z .nil a0p (a0g (pvF 0) (a0g a0k a0j))))
   (a0l (a1k (c7q T.m8o j8z j1m (by rfl) T.h1w T.f6o .nil a0p (a0g (a0r a9u a7g (by rfl) T.c4y T.a9n.kp T.b4h .nil a0p (a0g (a1o a3q (pvF 0) a0k (fun _ _ => rfl)) a0j)) (a0g (a0r c5m c1g (by rfl) T.f6t T.b4i.kp T.c4z .nil a0p (a0g (a1o a3q (pvF 0) a0k (fun _ _ => rfl)) a0j)) a0j)))))), ?_⟩
   walk_at "rd"
   refine ⟨_, hl, rfl, ?_⟩
   walk_at "rd*"
   refine ⟨y, rfl, oy, ?_⟩
   rintro _ H1 ⟨g, rfl, n1, S1, h1⟩
   have hl1 := S1 _ _ hl
   clear hl
   walk_at "rd*"
   refine ⟨n, rfl, na, nb, ?_⟩
   intro x dx H2 n2 n3 nx S2 hdx hx
   refine ⟨dx, hx, fun H3 B3 h3 => ?_⟩
   rw [asNew]
   refine ⟨rfl, ?_⟩
   have gx : g ≠ x := fun e => by rw [e] at h1; rw [h1] at n2; cases n2
   exact q x H3 (S1.free n2) (fun b u e => B3 _ _ (fun z => by rw [z] at e; rw [S1 _ _ e] at n2; cases n2) (S2 _ _ (S1 _ _ e))) ⟨dx, _, h3, g, rfl, B3 _ _ gx (S2 _ _ h1)⟩
  | _ => simp [Dt.kd] at hk
theorem k7k (T : Tx K mg A) : a1s P A.wd K mg base CX0 6 A.b6i A.g2g ["values"] (i8z A 4) := by
 have a3u : a1s P A.wd K mg base CX0 1 _ _ _ _ := k7g T
 have a9u : a1s P A.wd K mg base CX0 4 _ _ _ _ := l5h T
 have c5m : a1s P A.wd K mg base CX0 4 _ _ _ _ := m3t T
 have l5i : a1s P A.wd K mg base CX0 1 _ _ _ _ := m3i T
 have k7l : a1s P A.wd K mg base CX0 1 _ _ _ _ := l8i T
 have j9a : a1s P A.wd K mg base CX0 1 _ _ _ _ := l8q T
 have a3h := T.a3h
 have a1y := T.a1y
 have a1z := T.a1z
 refine T.d9u.ok i0n (fun vs H Q E h => ?_) (fun cdv A' outer s H vs Q E hr h => ?_)
 ·obtain ⟨_, rfl, _⟩ := b7i (by unfold i8z at h; exact h)
  rfl
 ·obtain ⟨l, rfl, ⟨d, hk, ok, hl, q⟩⟩ := b7i (by unfold i8z at h; exact h)
  cases d with
  | hall y n =>
   have hu := hr.units
   have a3n : a2q 1 _ := hr.mono (by decide)
   have a7g : a2q 4 _ := hr.mono (by decide)
   have c1g : a2q 4 _ := hr.mono (by decide)
   have k7m : a2q 1 _ := hr.mono (by decide)
   have j9b : a2q 1 _ := hr.mono (by decide)
   have j1n : a2q 2 _ := hr.mono (by decide)
   obtain ⟨oy, yl, na, nb⟩ := ok
   replace hl : H l = some (.lst [.str (fW y), .str (nW n)]) := hl
   refine ⟨_, (a0i (b0q (a0r a3u a3n (by rfl) T.b2w T.a4m.kp T.a6z .nil a0p (a0g (pvF 0) (a0g a0k a0j))))
   (a0i (a1j (i := 1) i0n.nd rfl (Or.inl rfl) (a0r a9u a7g (by rfl) T.c4y T.a9n.kp T.b4h .nil a0p (a0g (a1o a3q (pvF 0) a0k (fun _ _ => rfl)) a0j)))
   (a0i (a6k (c0i (a7j (a0r k7l j9b (by rfl) T.k6q T.d1s.kp T.g2n .nil a0p (a0g (a0r l5i k7m (by rfl) T.l3p T.d9k.kp T.h1h .nil a0p (a0g (pvF 1) a0j)) (a0g (a8w (a0g a0k (a0g a0k a0j))) a0j)))))
   (a0l a6h)
   a2m)
   (a0l (a1k (c7q T.m8p j9a j1n (by rfl) T.h1x T.f6q .nil a0p (a0g (pvF 1) (a0g (a0r c5m c1g (by rfl) T.f6t T.b4i.kp T.c4z .nil a0p (a0g (a1o a3q (pvF 0) a0k (fun _ _ => rfl)) a0j)) a0j)))))))), ?_⟩
   walk_at "rd"
   refine ⟨_, hl, rfl, ?_⟩
   walk_at "rd*"
   refine ⟨y, rfl, oy, ?_⟩
   rintro _ H1 ⟨g, rfl, n1, S1, h1⟩
   have hl1 := S1 _ _ hl
   clear hl
   walk_at "rd"
   refine ⟨y, h1, ?_⟩
   rintro _ H2 ⟨a, rfl, n2, S2, h2⟩
   walk_at "rd"
   refine fun u H3 n3 S3 h3 => ?_
   have h3' : H3 u = some (.tup (d7y 1)) := h3
   have S13 := S2.trans S3
   have b1 := oy.b.1
   have b2 := oy.b.2
   have ab := l8r b1
   have hl3 := S13 _ _ hl1
   clear h3 hl1
   have un : (Rat.abs y).num * ((1 : Rat).den : Int) < (1 : Rat).num * ((Rat.abs y).den : Int) := by
    rw [j8o, j8p]
    show (y.num.natAbs : Int) * 1 < 1 * (y.den : Int)
    omega
   walk_at "rd"
   refine ⟨Rat.abs y, 1, ⟨S3 _ _ h2, h3', by omega, by rw [j8p]; omega, by decide, by decide⟩, ?_⟩
   walk_at "rd*"
   refine ⟨n, rfl, na, nb, ?_⟩
   intro x dx H4 n4 n5 nx S4 hdx hx
   refine ⟨dx, hx, fun H5 B5 h5 => ?_⟩
   rw [asNew]
   refine ⟨rfl, ?_⟩
   have h1' := S13 _ _ h1
   have S03 := S1.trans S13
   have gx : g ≠ x := fun e => by rw [e] at h1'; rw [h1'] at n4; cases n4
   exact q x H5 (S03.free n4) (fun b u e => B5 _ _ (fun z => by rw [z] at e; rw [S03 _ _ e] at n4; cases n4) (S4 _ _ (S03 _ _ e))) ⟨dx, _, h5, g, rfl, B5 _ _ gx (S4 _ _ h1')⟩
  | _ => simp [Dt.kd] at hk
theorem Crn.d4k {l : Addr} {H H' : Hp} {ps : List Addr} {cs : List (Int × Rat)} {xs : List V} (h : Crn H ps cs) (hl : H l = some (.lst xs)) (S : a6j l H H') : Crn H' ps cs :=
 ⟨h.1, fun i p c e1 e2 => (h.2 i p c e1 e2).elim fun g z => ⟨g, S _ _ (fun e => by have := z.1; rw [e, hl] at this; cases this) z.1, S _ _ (fun e => by have := z.2; rw [e, hl] at this; cases this) z.2⟩⟩
theorem Crn.nil {H : Hp} : Crn H [] [] := ⟨rfl, fun i p r e => by simp at e⟩
theorem Crn.snoc {H : Hp} {ps : List Addr} {cs : List (Int × Rat)} {p g : Addr} {a : Int} {y : Rat} (h : Crn H ps cs) (hp : H p = some (.tup [.int a, .ref g])) (hg : H g = some (.tup (d7y y))) : Crn H (ps ++ [p]) (cs ++ [(a, y)]) := by
 refine ⟨by rw [List.length_append, List.length_append, h.1]; rfl, fun i p' c' e1 e2 => ?_⟩
 by_cases hi : i < ps.length
 ·rw [List.getElem?_append_left hi] at e1
  rw [List.getElem?_append_left (by rw [<- h.1]; exact hi)] at e2
  exact h.2 i p' c' e1 e2
 ·rw [List.getElem?_append_right (by omega)] at e1
  rw [List.getElem?_append_right (by rw [<- h.1]; omega)] at e2
  rw [<- h.1] at e2
  cases hz : i - ps.length with
  | zero =>
   rw [hz] at e1 e2
   simp at e1 e2
   subst e1 e2
   exact ⟨g, hp, hg⟩
  | succ n =>
   rw [hz] at e1
   simp at e1
theorem n2v (T : Tx K mg A) : a1s P A.wd K mg base CX0 5 A.a9j A.c9n ["text"] n2p := by
 have a9u : a1s P A.wd K mg base CX0 4 _ _ _ _ := l5h T
 have a9t : a1s P A.wd K mg base CX0 3 _ _ _ _ := l8v T
 refine T.b6q.ok f4o (fun vs H Q E h => ?_) (fun cdv A' outer s H vs Q E hr h => ?_)
 ·obtain ⟨_, rfl, _⟩ := k4n (by unfold n2p at h; exact h)
  rfl
 ·obtain ⟨x, rfl, ⟨c, hx, c0, c1, oy, q⟩⟩ := k4n (by unfold n2p at h; exact h)
  subst hx
  have hu := hr.units
  have a7g : a2q 4 _ := hr.mono (by decide)
  have a7m : a2q 3 _ := hr.mono (by decide)
  have sp := j0b (c := c)
  have cl := m0p (c := c) (by omega) oy.b.1 oy.b.2
  have hs : sizeLine = 16777216 := sizeLine_eq
  have d1 : ((⟨#[61]⟩ : Str).length == 0) = false := rfl
  have d2 : (cW c).length <= sizeLine := by omega
  refine ⟨_, (a0i (a1j (i := 1) f4o.nd rfl (Or.inl rfl) (b5q c0l PySem.F.plainAttrs_str PySem.F.slot_str_split PySem.F.type_str_split g9x (pvF 0) (a0g a3w a0j)))
   (a0i (a6k (a2l (c7p hu) (a1p a2r (by rfl) T.b3i boot_len (a0g (pvF 1) a0j)) a0k (a2v _))
   (a0l a6h)
   a2m)
   (a0l (a1k (a8w (a0g (a0r a9t a7m (by rfl) T.c2m T.a6y.kp T.b2v .nil a0p (a0g (a1o a3q (pvF 1) a0k (fun _ _ => rfl)) (a0g a0k (a0g (b0p (v := .int 100000) (by rfl) T.d2i T.k6x) a0j)))) (a0g (a0r a9u a7g (by rfl) T.c4y T.a9n.kp T.b4h .nil a0p (a0g (a1o a3q (pvF 1) a0k (fun _ _ => rfl)) a0j)) a0j))))))), ?_⟩
  rw [n2h]
  walk_at "rd*"
  refine ⟨by omega, fun l H1 n1 S1 h1 => ?_⟩
  walk_at "rd*"
  have e : ((c.1.toNat : Nat) : Int) = c.1 := Int.toNat_of_nonneg c0
  refine ⟨c.1.toNat, by rw [d6w, e], by omega, by omega, by omega, c.2, rfl, oy, ?_⟩
  rw [e]
  rintro _ H2 ⟨g, rfl, n2, S2, h2⟩
  walk_at "rd"
  intro p H3 n3 S3 h3
  exact q p g H3 ((S1.trans S2).free n3) (S1.trans (S2.trans S3)) h3 (S3 _ _ h2)
theorem j9c (T : Tx K mg A) : a1s P A.wd K mg base CX0 7 A.b2t A.f5w ["values"] (i8z A 5) := by
 have a3u : a1s P A.wd K mg base CX0 1 _ _ _ _ := k7g T
 have i3z : a1s P A.wd K mg base CX0 5 _ _ _ _ := n2v T
 have j1o : a1s P A.wd K mg base CX0 5 _ _ _ _ := l4v T
 have a2i := T.a2i
 have a0q := T.a0q
 have a0s := T.a0s
 have a1g := T.a1g
 refine T.d1v.ok d2o (fun vs H Q E h => ?_) (fun cdv A' outer s H vs Q E hr h => ?_)
 ·obtain ⟨_, rfl, _⟩ := b7i (by unfold i8z at h; exact h)
  rfl
 ·obtain ⟨l, rfl, ⟨d, hk, ok, hl, q⟩⟩ := b7i (by unfold i8z at h; exact h)
  cases d with
  | swell cs =>
   have hu := hr.units
   have a3n : a2q 1 _ := hr.mono (by decide)
   have h6q : a2q 5 _ := hr.mono (by decide)
   have i4a : a2q 6 _ := hr.mono (by decide)
   have ok : j6t cs := ok
   have L1 := ok.2.2.1
   have L12 := ok.2.2.2
   have hs : sizeLine = 16777216 := sizeLine_eq
   have jl := ok.n0l
   have sp := i2l L1
   have d1 : ((⟨#[44]⟩ : Str).length == 0) = false := rfl
   replace hl : H l = some (.lst [.str (Str.join ⟨#[44]⟩ (cs.map cW))]) := hl
   refine ⟨_, (a0i (b0q (a0r a3u a3n (by rfl) T.b2w T.a4m.kp T.a6z .nil a0p (a0g (pvF 0) (a0g a0k a0j))))
   (a0i (i2e (i := 1) d2o.nd rfl rfl (a5n (b5q c0l PySem.F.plainAttrs_str PySem.F.slot_str_split PySem.F.type_str_split g9x (a1o a3q (pvF 0) a0k (fun _ _ => rfl)) (a0g a3w a0j))) (fun _ _ _ _ _ => (a0r i3z h6q (by rfl) T.i2y T.b6q.kp T.d3t .nil a0p (a0g (pvF 0) a0j))) (f5m (sc := a0h b7w) (N := ["values", "corners", "left", "right"]) rfl rfl (by decide +kernel)) rfl)
   (a0i (a6k (a2l i9q (a1p a2r (by rfl) T.b3i boot_len (a0g (pvF 1) a0j)) (b0p (v := .int 12) (by rfl) T.b1u T.h1y) (a2v _))
   (a0l a6h)
   a2m)
   (a0i (b0r PassesOwn.never rfl (k4h (by rfl) T.j0q (a0g (pvF 1) (a0g (a5m n4q (pvF 1) (a3y a0k) b2z) a0j))) (i2g (n := 2) rfl (c0o (a5g (i := 2) d2o.nd rfl (Or.inl rfl)) (c0o (a5g (i := 3) d2o.nd rfl (Or.inl rfl)) g9y)))
   (a0l (a6k (a2l l7j (a1o a3q (pvF 2) a0k (fun _ _ => rfl)) (a1o a3q (pvF 3) a0k (fun _ _ => rfl)) (a2v _))
   (a0l a6h)
   a2m)))
   (a0l (a1k (c7q T.m2r j1o i4a (by rfl) T.g0r T.d9p .nil a0p (a0g (pvF 1) a0j)))))))), ?_⟩
   rw [l7y]
   walk_at "rd"
   refine ⟨_, hl, rfl, ?_⟩
   walk_at "rd*"
   refine ⟨by omega, by omega, fun a H1 n1 S1 h1 => ?_⟩
   walk_at "rd"
   refine ⟨⟨_, SqL.of h1⟩, fun D H2 n2 S2 h2 => ?_⟩
   refine b7k (xs := (cs.map cW).map V.str) (fun i ys H' => Same H1 H' /\ H' D = some (.lst ys) /\ ∃ ps, ys = ps.map V.ref /\ Crn H' ps (cs.take i)) ⟨S2, h2, [], rfl, by rw [List.take_zero]; exact Crn.nil⟩ (by rw [List.length_map, List.length_map, hs]; omega) ?_ ?_ ?_
   ·intro i ys H' hi ⟨S', h', ps, e, R⟩
    rw [List.length_map, List.length_map] at hi
    exact ⟨h', SqL.of (S' _ _ h1), by rw [e, List.length_map, R.1, List.length_take]; omega⟩
   ·intro i x ys H' hx ⟨S', h', ps, e, R⟩
    rw [List.map_map, List.getElem?_map] at hx
    obtain ⟨c, hc, rfl⟩ := Option.map_eq_some_iff.mp hx
    obtain ⟨o1, o2, oy⟩ := ok.1 c (List.mem_of_getElem? hc)
    walk_at "rd"
    refine ⟨c, rfl, o1, o2, oy, fun p g H3 n3 S3 h3 hg => ⟨S3 _ _ h', fun H4 B4 h4 => ⟨(S'.trans S3).step n2 B4, h4, ps ++ [p], by rw [e, List.map_append]; rfl, ?_⟩⟩⟩
    rw [List.take_add_one, hc]
    exact ((R.same S3).snoc h3 hg).d4k (S3 _ _ h') B4
   ·intro ys H3 ⟨S3, h3, ps, e, R⟩
    rw [List.length_map, List.length_map, List.take_length] at R
    subst e
    have pl := R.1
    have ln : ¬ (12 : Int) < (cs.length : Int) := by omega
    clear h2 sp jl
    walk_at "rd*"
    refine fun c2 H4 n4 S4 h4 => ?_
    have e2 : g5j (ps.map V.ref) (some 1) none = (ps.drop 1).map V.ref := by
     show g6o (ps.map V.ref) (some ((1 : Nat) : Int)) none = _
     rw [a5v, List.map_drop]
    rw [e2] at h4
    have h34 := S4 _ _ h3
    clear e2 h3
    walk_at "rd*"
    obtain ⟨Pv, pin, pout⟩ := f5n (fun i σ H' => ∃ (v2 v3 : Option V), σ = [some (.ref l), some (.ref D), v2, v3] /\ Same H4 H')
    refine i2j (xs := ps.map V.ref) (ys := (ps.drop 1).map V.ref) Pv (pin _ _ _ ⟨_, _, rfl, Same.refl _⟩) ?_ ?_ ?_
    ·intro i σ H5 hp
     obtain ⟨v2, v3, rfl, S5⟩ := pout _ _ _ hp
     exact ⟨SqL.of (S5 _ _ h34), SqL.of (S5 _ _ h4)⟩
    ·intro i x y σ H5 p H6 hx hy hp np S6 h6
     obtain ⟨v2, v3, rfl, S5⟩ := pout _ _ _ hp
     obtain ⟨pc, c, g, rfl, hc, hpc, hg⟩ := R.get hx
     have hy' : (ps.map V.ref)[i + 1]? = some y := by
      rw [List.map_drop, List.getElem?_drop] at hy
      rwa [Nat.add_comm] at hy
     obtain ⟨pd, d, gd, rfl, hd, hpd, hgd⟩ := R.get hy'
     have lt := ok.2.1 i c d hc hd
     have nlt : ¬ d.1 <= c.1 := by omega
     have SS := S4.trans (S5.trans S6)
     have hpc' := SS _ _ hpc
     have hpd' := SS _ _ hpd
     clear hpc hpd h34 h4 hg hgd
     walk_at "rd*"
     exact pin _ _ _ ⟨_, _, rfl, S5.trans S6⟩
    ·intro σ H5 hp
     obtain ⟨v2, v3, rfl, S5⟩ := pout _ _ _ hp
     walk_at "rd"
     intro x dx H6 n6 n7 nx S6 hdx hx
     have hl6 := S6 _ _ (S5 _ _ h34)
     have S36 := S4.trans (S5.trans S6)
     have S03 := S1.trans S3
     have S05 := S03.trans (S4.trans S5)
     refine ⟨dx, ps, cs, hx, hl6, R.same S36, j6t.crn ok, L1, L12, fun ct ln S ss us H7 B7 nct h7 hct hln TP sok => ?_⟩
     rw [asNew]
     refine ⟨rfl, q x H7 (S05.free n6) (fun b u e => B7 _ _ (fun z => by rw [z] at e; rw [S05 _ _ e] at n6; cases n6) (S6 _ _ (S05 _ _ e))) ⟨dx, _, h7, ct, ln, S, ss, us, ps, rfl, hct, hln, TP, sok, (R.same S36).g0u hx B7⟩⟩
  | _ => simp [Dt.kd] at hk
theorem j9d (T : Tx K mg A) : a1s P A.wd K mg base CX0 8 A.c4o A.g2h ["word"] (f4s A) := by
 have l5j : a1s P A.wd K mg base CX0 6 _ _ _ _ := k7h T
 have k7n : a1s P A.wd K mg base CX0 6 _ _ _ _ := j8x T
 have l5k : a1s P A.wd K mg base CX0 6 _ _ _ _ := k7i T
 have l5l : a1s P A.wd K mg base CX0 6 _ _ _ _ := k7j T
 have l5m : a1s P A.wd K mg base CX0 6 _ _ _ _ := k7k T
 have k7o : a1s P A.wd K mg base CX0 7 _ _ _ _ := j9c T
 refine T.b0h.ok i0o (fun vs H Q E h => ?_) (fun cdv A' outer s H vs Q E hr h => ?_)
 ·obtain ⟨_, rfl, _⟩ := k4n (by unfold f4s at h; exact h)
  rfl
 ·obtain ⟨x, rfl, ⟨d, ok, hx, q⟩⟩ := k4n (by unfold f4s at h; exact h)
  subst hx
  have hu := hr.units
  have k7p : a2q 6 _ := hr.mono (by decide)
  have j9e : a2q 6 _ := hr.mono (by decide)
  have k7q : a2q 6 _ := hr.mono (by decide)
  have k7r : a2q 6 _ := hr.mono (by decide)
  have k7s : a2q 6 _ := hr.mono (by decide)
  have j9f : a2q 7 _ := hr.mono (by decide)
  have dk := T.k6y
  have sp := d.split
  have wl := d.wlen ok
  have vn := d.vn
  have hs : sizeLine = 16777216 := sizeLine_eq
  have d1 : ((⟨#[58]⟩ : Str).length == 0) = false := rfl
  obtain ⟨f, hf⟩ : ∃ f, PySem.W.nsIn K A.a2s d.kind = some (some (.ref f)) := by
   cases d with
   | gain => exact ⟨_, T.a8j⟩
   | delay => exact ⟨_, T.a6o⟩
   | echo => exact ⟨_, T.a8k⟩
   | back => exact ⟨_, T.a8l⟩
   | hall => exact ⟨_, T.a8m⟩
   | swell => exact ⟨_, T.a6p⟩
  refine ⟨_, (a0i (a6k (c0i (a7j (a1p (b9j .str) (by rfl) T.a3k boot_isinstance (a0g (pvF 0) (a0g (c8y (v := .ty "str") (u := .type "str") (by rfl) T.f4j rfl rfl) a0j)))))
   (a0l a6h)
   a2m)
   (a0i (a1j (i := 1) i0o.nd rfl (Or.inl rfl) (b5q c0l PySem.F.plainAttrs_str PySem.F.slot_str_split PySem.F.type_str_split g9x (pvF 0) (a0g a3w a0j)))
   (a0i (a6k (a2l (l3a (K := K) (w := A.wd) (by rfl) (by rfl)) (a1o a3q (pvF 1) a0k (fun _ _ => rfl)) (b0p (v := .ref A.a2s) (by rfl) T.a8i rfl) (by rfl))
   (a0l a6h)
   a2m)
   (a0l (a1k (a0o (f3p l5j k7p T.d9r.kp T.h1p .nil a0p (a1o (m5c (K := K) (w := A.wd) (by rfl) (by rfl)) (b0p (v := .ref A.a2s) (by rfl) T.a8i rfl) (a1o a3q (pvF 1) a0k (fun _ _ => rfl)) (fun _ _ => rfl)) (a0g (a5m j7d (pvF 1) (a3y a0k) b2z) a0j)) (a0o (f3p k7n j9e T.d1u.kp T.g2o .nil a0p (a1o (m5c (K := K) (w := A.wd) (by rfl) (by rfl)) (b0p (v := .ref A.a2s) (by rfl) T.a8i rfl) (a1o a3q (pvF 1) a0k (fun _ _ => rfl)) (fun _ _ => rfl)) (a0g (a5m j7d (pvF 1) (a3y a0k) b2z) a0j)) (a0o (f3p l5k k7q T.d9s.kp T.h1q .nil a0p (a1o (m5c (K := K) (w := A.wd) (by rfl) (by rfl)) (b0p (v := .ref A.a2s) (by rfl) T.a8i rfl) (a1o a3q (pvF 1) a0k (fun _ _ => rfl)) (fun _ _ => rfl)) (a0g (a5m j7d (pvF 1) (a3y a0k) b2z) a0j)) (a0o (f3p l5l k7r T.d9t.kp T.h1r .nil a0p (a1o (m5c (K := K) (w := A.wd) (by rfl) (by rfl)) (b0p (v := .ref A.a2s) (by rfl) T.a8i rfl) (a1o a3q (pvF 1) a0k (fun _ _ => rfl)) (fun _ _ => rfl)) (a0g (a5m j7d (pvF 1) (a3y a0k) b2z) a0j)) (a0o (f3p l5m k7s T.d9u.kp T.h1s .nil a0p (a1o (m5c (K := K) (w := A.wd) (by rfl) (by rfl)) (b0p (v := .ref A.a2s) (by rfl) T.a8i rfl) (a1o a3q (pvF 1) a0k (fun _ _ => rfl)) (fun _ _ => rfl)) (a0g (a5m j7d (pvF 1) (a3y a0k) b2z) a0j)) (f3p k7o j9f T.d1v.kp T.g2p .nil a0p (a1o (m5c (K := K) (w := A.wd) (by rfl) (by rfl)) (b0p (v := .ref A.a2s) (by rfl) T.a8i rfl) (a1o a3q (pvF 1) a0k (fun _ _ => rfl)) (fun _ _ => rfl)) (a0g (a5m j7d (pvF 1) (a3y a0k) b2z) a0j)))))))))))), ?_⟩
  rw [n2g]
  walk_at "rd*"
  refine ⟨by omega, by omega, fun l H1 n1 S1 h1 => ?_⟩
  clear sp wl
  walk_at "rd*"
  clear hf
  cases d with
  | gain y =>
   refine Or.inl ?_
   have rd := T.a8j
   have q1 := ok
   clear ok
   replace h1 : H1 l = some (.lst [.str (Str.ofString "gain"), .str (fW y)]) := h1
   walk_at "rd*"
   refine fun m H2 n2 S2 h2 => ?_
   have e2 : g5j [V.str (Str.ofString "gain"), V.str (fW y)] (some 1) none = (Dt.gain y).vals.map V.str := by
    show g6o _ (some ((1 : Nat) : Int)) none = _
    rw [a5v]
    rfl
   rw [e2] at h2
   walk_at "rd"
   exact ⟨_, rfl, q1, h2, fun o H3 n3 S3 hp => q o H3 ((S1.trans S2).free n3) (S1.trans (S2.trans S3)) hp⟩
  | delay n =>
   refine Or.inr (Or.inl ?_)
   have rd := T.a6o
   have q1 := ok
   clear ok
   replace h1 : H1 l = some (.lst [.str (Str.ofString "delay"), .str (nW n)]) := h1
   walk_at "rd*"
   refine fun m H2 n2 S2 h2 => ?_
   have e2 : g5j [V.str (Str.ofString "delay"), V.str (nW n)] (some 1) none = (Dt.delay n).vals.map V.str := by
    show g6o _ (some ((1 : Nat) : Int)) none = _
    rw [a5v]
    rfl
   rw [e2] at h2
   walk_at "rd"
   exact ⟨_, rfl, q1, h2, fun o H3 n3 S3 hp => q o H3 ((S1.trans S2).free n3) (S1.trans (S2.trans S3)) hp⟩
  | echo y n t =>
   refine Or.inr (Or.inr (Or.inl ?_))
   have rd := T.a8k
   have q1 := ok
   clear ok
   replace h1 : H1 l = some (.lst [.str (Str.ofString "echo"), .str (fW y), .str (nW n), .str (nW t)]) := h1
   walk_at "rd*"
   refine fun m H2 n2 S2 h2 => ?_
   have e2 : g5j [V.str (Str.ofString "echo"), V.str (fW y), V.str (nW n), V.str (nW t)] (some 1) none = (Dt.echo y n t).vals.map V.str := by
    show g6o _ (some ((1 : Nat) : Int)) none = _
    rw [a5v]
    rfl
   rw [e2] at h2
   walk_at "rd"
   exact ⟨_, rfl, q1, h2, fun o H3 n3 S3 hp => q o H3 ((S1.trans S2).free n3) (S1.trans (S2.trans S3)) hp⟩
  | back y n =>
   refine Or.inr (Or.inr (Or.inr (Or.inl ?_)))
   have rd := T.a8l
   have q1 := ok
   clear ok
   replace h1 : H1 l = some (.lst [.str (Str.ofString "back"), .str (fW y), .str (nW n)]) := h1
   walk_at "rd*"
   refine fun m H2 n2 S2 h2 => ?_
   have e2 : g5j [V.str (Str.ofString "back"), V.str (fW y), V.str (nW n)] (some 1) none = (Dt.back y n).vals.map V.str := by
    show g6o _ (some ((1 : Nat) : Int)) none = _
    rw [a5v]
    rfl
   rw [e2] at h2
   walk_at "rd"
   exact ⟨_, rfl, q1, h2, fun o H3 n3 S3 hp => q o H3 ((S1.trans S2).free n3) (S1.trans (S2.trans S3)) hp⟩
  | hall y n =>
   refine Or.inr (Or.inr (Or.inr (Or.inr (Or.inl ?_))))
   have rd := T.a8m
   have q1 := ok
   clear ok
   replace h1 : H1 l = some (.lst [.str (Str.ofString "hall"), .str (fW y), .str (nW n)]) := h1
   walk_at "rd*"
   refine fun m H2 n2 S2 h2 => ?_
   have e2 : g5j [V.str (Str.ofString "hall"), V.str (fW y), V.str (nW n)] (some 1) none = (Dt.hall y n).vals.map V.str := by
    show g6o _ (some ((1 : Nat) : Int)) none = _
    rw [a5v]
    rfl
   rw [e2] at h2
   walk_at "rd"
   exact ⟨_, rfl, q1, h2, fun o H3 n3 S3 hp => q o H3 ((S1.trans S2).free n3) (S1.trans (S2.trans S3)) hp⟩
  | swell cs =>
   refine Or.inr (Or.inr (Or.inr (Or.inr (Or.inr ?_))))
   have rd := T.a6p
   have q1 := ok
   clear ok
   replace h1 : H1 l = some (.lst [.str (Str.ofString "swell"), .str (Str.join ⟨#[44]⟩ (cs.map cW))]) := h1
   walk_at "rd*"
   refine fun m H2 n2 S2 h2 => ?_
   have e2 : g5j [V.str (Str.ofString "swell"), V.str (Str.join ⟨#[44]⟩ (cs.map cW))] (some 1) none = (Dt.swell cs).vals.map V.str := by
    show g6o _ (some ((1 : Nat) : Int)) none = _
    rw [a5v]
    rfl
   rw [e2] at h2
   walk_at "rd"
   exact ⟨_, rfl, q1, h2, fun o H3 n3 S3 hp => q o H3 ((S1.trans S2).free n3) (S1.trans (S2.trans S3)) hp⟩
theorem lk6 {H : Hp} {fs : List (Str × V)} {d : Dt} {m : Str} (hf : l4c H fs d) (nm : m ≠ ("gain" : Str) ∧ m ≠ ("many" : Str) ∧ m ≠ ("turns" : Str) ∧ m ≠ ("factors" : Str) ∧ m ≠ ("factor_bottom" : Str) ∧ m ≠ ("corners" : Str) ∧ m ≠ ("shared" : Str) ∧ m ≠ ("lines" : Str)) : fs.lookup m = none := by
 obtain ⟨m1, m2, m3, m4, m5, m6, m7, m8⟩ := nm
 have b : ∀ {a c : Str}, a ≠ c -> (a == c) = false := fun h => beq_false_of_ne h
 cases d with
 | gain y => obtain ⟨g, rfl, _⟩ := hf; simp only [gnF, List.lookup, b m1]
 | delay n => obtain rfl := hf; simp only [dlF, List.lookup, b m2]
 | echo y n t => obtain ⟨g, fa, rfl, _⟩ := hf; simp only [ecF, List.lookup, b m1, b m2, b m3, b m4, b m5]
 | back y n => obtain ⟨g, rfl, _⟩ := hf; simp only [bkF, List.lookup, b m1, b m2]
 | hall y n => obtain ⟨g, rfl, _⟩ := hf; simp only [bkF, List.lookup, b m1, b m2]
 | swell cs => obtain ⟨ct, ln, S, ss, us, ps, rfl, _⟩ := hf; simp only [swF, List.lookup, b m6, b m7, b m8]
theorem g3a {C o : Addr} {i : Nat} {m : Str} {sp : Sp} {E : XK} {t : TA} {σ : L2.St} {H : Hp} {Q : VK} {dx : Addr} {fs : List (Str × V)} (hσ : σ[i]? = some (some (.ref o))) (ho : H o = some (.ins C dx fs)) (hl : fs.lookup m = none) (ht : t σ H fun vs H2 => sp (.ref o :: (vs ++ [])) H2 Q E) : a3o C m sp [] E (a7q i) t σ H Q := by
 simp only [a3o, a7q, hσ, ho]
 exact ⟨trivial, hl, ht⟩
theorem m9c {σ : L2.St} {i : Nat} {o : Addr} {H : Hp} {d : Dt} {Q : VK} {E : XK} {m : Str} {s0 s1 s2 s3 s4 s5 : Sp} {t : TA} (hσ : σ[i]? = some (some (.ref o))) (hd : IsP A H o d) (nm : m ≠ ("gain" : Str) ∧ m ≠ ("many" : Str) ∧ m ≠ ("turns" : Str) ∧ m ≠ ("factors" : Str) ∧ m ≠ ("factor_bottom" : Str) ∧ m ≠ ("corners" : Str) ∧ m ≠ ("shared" : Str) ∧ m ≠ ("lines" : Str))
  (q : t σ H fun vs H2 => (match d with | .gain _ => s0 | .delay _ => s1 | .echo .. => s2 | .back .. => s3 | .hall .. => s4 | .swell _ => s5) (.ref o :: (vs ++ [])) H2 Q E) :
  a3p (a3o A.a5k m s0 [] E (a7q i) t) (a3p (a3o A.a3m m s1 [] E (a7q i) t) (a3p (a3o A.a3j m s2 [] E (a7q i) t) (a3p (a3o A.a4s m s3 [] E (a7q i) t) (a3p (a3o A.a4y m s4 [] E (a7q i) t) (a3o A.a2n m s5 [] E (a7q i) t))))) σ H Q := by
 obtain ⟨dx, fs, ho, hf⟩ := hd
 have lk := lk6 hf nm
 cases d with
 | gain y => exact .inl (g3a hσ ho lk q)
 | delay n => exact .inr (.inl (g3a hσ ho lk q))
 | echo y n t => exact .inr (.inr (.inl (g3a hσ ho lk q)))
 | back y n => exact .inr (.inr (.inr (.inl (g3a hσ ho lk q))))
 | hall y n => exact .inr (.inr (.inr (.inr (.inl (g3a hσ ho lk q)))))
 | swell cs => exact .inr (.inr (.inr (.inr (.inr (g3a hσ ho lk q)))))
theorem n2w {σ : L2.St} {i : Nat} {o : Addr} {H : Hp} {d : Dt} {Q : VK} {E : XK} {m : Str} {s0 s1 s2 s3 s4 s5 : Sp} (hσ : σ[i]? = some (some (.ref o))) (hd : IsP A H o d) (nm : m ≠ ("gain" : Str) ∧ m ≠ ("many" : Str) ∧ m ≠ ("turns" : Str) ∧ m ≠ ("factors" : Str) ∧ m ≠ ("factor_bottom" : Str) ∧ m ≠ ("corners" : Str) ∧ m ≠ ("shared" : Str) ∧ m ≠ ("lines" : Str))
  (q : (match d with | .gain _ => s0 | .delay _ => s1 | .echo .. => s2 | .back .. => s3 | .hall .. => s4 | .swell _ => s5) [.ref o] H Q E) :
  a3p (a3o A.a5k m s0 [] E (a7q i) d7w) (a3p (a3o A.a3m m s1 [] E (a7q i) d7w) (a3p (a3o A.a3j m s2 [] E (a7q i) d7w) (a3p (a3o A.a4s m s3 [] E (a7q i) d7w) (a3p (a3o A.a4y m s4 [] E (a7q i) d7w) (a3o A.a2n m s5 [] E (a7q i) d7w))))) σ H Q := m9c hσ hd nm q
theorem n4w {σ : L2.St} {i : Nat} {o : Addr} {H : Hp} {d : Dt} {S : Int} {ss : List Rat} {Q : VK} {E : XK} {t : TA} (hσ : σ[i]? = some (some (.ref o))) (hd : g2v A H o d S ss) (ht : t σ H fun vs H2 => g2w A d.kd (.ref o :: (vs ++ [])) H2 Q E) :
  a3p (a3o A.a5k "through" (g2w A 0) [] E (a7q i) t) (a3p (a3o A.a3m "through" (g2w A 1) [] E (a7q i) t) (a3p (a3o A.a3j "through" (g2w A 2) [] E (a7q i) t) (a3p (a3o A.a4s "through" (g2w A 3) [] E (a7q i) t) (a3p (a3o A.a4y "through" (g2w A 4) [] E (a7q i) t) (a3o A.a2n "through" (g2w A 5) [] E (a7q i) t))))) σ H Q := m9c hσ hd.isP (by decide +kernel) (by cases d <;> exact ht)
theorem fr6 {σ : L2.St} {i : Nat} {o : Addr} {H : Hp} {d : Dt} {S : Int} {ss : List Rat} {Q : VK} {E : XK} (hσ : σ[i]? = some (some (.ref o))) (hd : g2v A H o d S ss) (q : ∀ st H1, Same H H1 -> (∀ b, StV H1 b [] st d) -> Q st H1) :
  a3p (a3o A.a5k "fresh" f0i [] E (a7q i) d7w) (a3p (a3o A.a3m "fresh" f0i [] E (a7q i) d7w) (a3p (a3o A.a3j "fresh" f0i [] E (a7q i) d7w) (a3p (a3o A.a4s "fresh" f0i [] E (a7q i) d7w) (a3p (a3o A.a4y "fresh" f0i [] E (a7q i) d7w) (a3o A.a2n "fresh" g0s [] E (a7q i) d7w))))) σ H Q := by
 refine n2w hσ hd.isP (by decide +kernel) ?_
 have fin : d.kd ≠ 5 -> All (g0b H []) Q ⟨⟩ ⟨⟩ := fun hk => by
  rintro _ H1 ⟨p, rfl, n1, S1, h1⟩
  exact q _ H1 S1 fun b => l8u hk h1 b
 cases d with
 | swell cs => exact q _ H (Same.refl _) fun b => rfl
 | _ => exact fin (by simp [Dt.kd])
theorem gr6 {σ : L2.St} {i : Nat} {o : Addr} {H : Hp} {d : Dt} {S : Int} {ss : List Rat} {Q : VK} {E : XK} (hσ : σ[i]? = some (some (.ref o))) (hd : g2v A H o d S ss) (q : Q (.int (b8z S d)) H) :
  a3p (a3o A.a5k "grain" (g6v A 0) [] E (a7q i) d7w) (a3p (a3o A.a3m "grain" d3z [] E (a7q i) d7w) (a3p (a3o A.a3j "grain" (g6v A 2) [] E (a7q i) d7w) (a3p (a3o A.a4s "grain" (g6v A 3) [] E (a7q i) d7w) (a3p (a3o A.a4y "grain" d3z [] E (a7q i) d7w) (a3o A.a2n "grain" (g6v A 5) [] E (a7q i) d7w))))) σ H Q := by
 refine n2w hσ hd.isP (by decide +kernel) ?_
 cases d with
 | delay n => exact q
 | hall y n => exact q
 | _ => exact ⟨_, S, ss, rfl, hd, q⟩
theorem l5n (T : Tx K mg A) : a1s P A.wd K mg base CX0 1 A.a4o A.b3n ["one"] n2q := by
 refine T.a2z.ok a6n (fun vs H Q E h => ?_) (fun cdv A' outer s H vs Q E hr h => ?_)
 ·obtain ⟨_, rfl, _⟩ := b7i (by unfold n2q at h; exact h)
  rfl
 ·obtain ⟨p, rfl, ⟨x, hp, l1, l2, q⟩⟩ := b7i (by unfold n2q at h; exact h)
  have hu := hr.units
  unfold d7y at hp
  have fl := d0y l1 l2
  have g1 := c0p (intBits_le_iff.mp l1) (by decide)
  have g2 := c0p (intBits_le_iff.mp l2) (by decide)
  have a := c1i (intBits_le_iff.mp l1) (by decide)
  have b := c1i (intBits_le_iff.mp l2) (by decide)
  have e0 : Str.empty.length = 0 := rfl
  have e1 : (Str.ofString "/").length = 1 := by decide +kernel
  have hs : sizeLine = 16777216 := sizeLine_eq
  unfold fW at q
  refine ⟨_, (a0i (a1j (i := 1) a6n.nd rfl (Or.inl rfl) (a1o a3q (pvF 0) a0k (fun _ _ => rfl)))
   (a0i (a1j (i := 2) a6n.nd rfl (Or.inl rfl) (a1o a3q (pvF 0) a0k (fun _ _ => rfl)))
   (a0l (a1k (b5r (a3r (c2g (pvF 1)) (a3r a3w (a3r (c2g (pvF 2)) g0e)))))))), ?_⟩
  walk_at "rd*"
  simp only [strLen_append, e0, e1]
  refine ⟨by omega, by omega, by omega, by omega, by omega, by omega⟩
theorem n2x (T : Tx K mg A) : a1s P A.wd K mg base CX0 2 A.a9g A.c9j ["corner"] n2r := by
 have a3g : a1s P A.wd K mg base CX0 1 _ _ _ _ := l5n T
 refine T.b6l.ok c9i (fun vs H Q E h => ?_) (fun cdv A' outer s H vs Q E hr h => ?_)
 ·obtain ⟨_, rfl, _⟩ := b7i (by unfold n2r at h; exact h)
  rfl
 ·obtain ⟨p, rfl, ⟨c, g, hp, hg, l0, l1, l2, q⟩⟩ := b7i (by unfold n2r at h; exact h)
  have hu := hr.units
  have a2u : a2q 1 _ := hr.mono (by decide)
  have g0 := c0p l0 (by decide)
  have a := c1i l0 (by decide)
  have b := d0y l1 l2
  have e0 : Str.empty.length = 0 := rfl
  have e1 : (Str.ofString "=").length = 1 := by decide +kernel
  have hs : sizeLine = 16777216 := sizeLine_eq
  unfold cW at q
  refine ⟨_, (a0i (a1j (i := 1) c9i.nd rfl (Or.inl rfl) (a1o a3q (pvF 0) a0k (fun _ _ => rfl)))
   (a0i (a1j (i := 2) c9i.nd rfl (Or.inl rfl) (a0r a3g a2u (by rfl) T.a8h T.a2z.kp T.a4t .nil a0p (a0g (a1o a3q (pvF 0) a0k (fun _ _ => rfl)) a0j)))
   (a0l (a1k (b5r (a3r (c2g (pvF 1)) (a3r a3w (a3r (c2g (pvF 2)) g0e)))))))), ?_⟩
  walk_at "rd*"
  refine ⟨c.2, rfl, l1, l2, ?_⟩
  simp only [strLen_append, e0, e1]
  exact ⟨by omega, by omega, by omega, by omega, by omega, by omega, q⟩
theorem l5p {K : PySem.W.Frag} {a D : Addr} {xs : List V} {te : TE} {σ : L2.St} {H0 H : Hp} {Q : VK} (zs : List V) (hz : zs.length = xs.length) (n0 : H0 D = none) (S : Same H0 H) (hD : H D = some (.lst [])) (hS : H0 a = some (.tup xs)) (hsz : xs.length <= sizeLine)
  (hs : ∀ (i : Nat) x z H' (Q' : VK), xs[i]? = some x -> zs[i]? = some z -> Same H0 H' -> Q' z H' -> te (some x :: σ) H' Q') (q : ∀ H', Same H0 H' -> H' D = some (.lst zs) -> Q (.ref D) H') : h6g (Itt K a) te D σ H Q ⟨⟩ := by
 refine l2t (fun i ys H' => Same H0 H' /\ H' D = some (.lst ys) /\ ys = zs.take i) ⟨S, hD, by simp⟩ hsz (fun i ys H' hi p => ?_) (fun i x ys H' hx p => ?_) (fun ys H' p => ?_)
 ·refine ⟨p.2.1, SqT.of (p.1 _ _ hS), ?_⟩
  rw [p.2.2, List.length_take]
  omega
 ·have hi : i < zs.length := by rw [hz]; exact (List.getElem?_eq_some_iff.mp hx).1
  have hzi : zs[i]? = some zs[i] := List.getElem?_eq_getElem hi
  refine hs i x _ H' _ hx hzi p.1 ⟨p.2.1, fun H3 s3 h3 => ⟨p.1.step n0 s3, h3, ?_⟩⟩
  rw [p.2.2, List.take_add_one, hzi]
  rfl
 ·refine q H' p.1 ?_
  rw [p.2.1, p.2.2, <- hz, List.take_length]
theorem n2y (T : Tx K mg A) : a1s P A.wd K mg base CX0 2 A.b1h A.d8q ["self"] (i9a A 0) := by
 have a3g : a1s P A.wd K mg base CX0 1 _ _ _ _ := l5n T
 have a2w := T.a2w
 have a1t := T.a1t
 refine T.d3k.ok g5l (fun vs H Q E h => ?_) (fun cdv A' outer s H vs Q E hr h => ?_)
 ·obtain ⟨_, rfl, _⟩ := b7i (by unfold i9a at h; exact h)
  rfl
 ·obtain ⟨o, rfl, ⟨d, hk, hd, ok, q⟩⟩ := b7i (by unfold i9a at h; exact h)
  cases d with
  | gain y =>
   obtain ⟨dx, _, ho, g, rfl, hg⟩ := hd
   have ok : YOk y := ok
   replace ho : H o = some (.ins A.a5k dx [("gain", .ref g)]) := ho
   have hu := hr.units
   have a2u : a2q 1 _ := hr.mono (by decide)
   have a := d0y ok.b.1 ok.b.2
   have e0 : Str.empty.length = 0 := rfl
   have e1 : (Str.ofString "gain:").length = 5 := by decide +kernel
   have hs : sizeLine = 16777216 := sizeLine_eq
   refine ⟨_, (a0i (a1j (i := 1) g5l.nd rfl (Or.inl rfl) (a0r a3g a2u (by rfl) T.a8h T.a2z.kp T.a4t .nil a0p (a0g (a2p (pvF 0) rfl) a0j)))
   (a0l (a1k (b5r (a3r a3w (a3r (c2g (pvF 1)) g0e)))))), ?_⟩
   walk_at "rd*"
   refine ⟨y, rfl, ok.b.1, ok.b.2, ?_⟩
   simp only [strLen_append, e0, e1]
   exact ⟨by omega, by omega, by omega, by rw [l3e]; exact q _ (Same.refl _)⟩
  | _ => simp [Dt.kd] at hk
theorem n2z (T : Tx K mg A) : a1s P A.wd K mg base CX0 1 A.a8q A.d2u ["self"] (i9a A 1) := by
 have a2o := T.a2o
 have a1q := T.a1q
 refine T.c8g.ok g0k (fun vs H Q E h => ?_) (fun cdv A' outer s H vs Q E hr h => ?_)
 ·obtain ⟨_, rfl, _⟩ := b7i (by unfold i9a at h; exact h)
  rfl
 ·obtain ⟨o, rfl, ⟨d, hk, hd, ok, q⟩⟩ := b7i (by unfold i9a at h; exact h)
  cases d with
  | delay n =>
   obtain ⟨dx, _, ho, rfl⟩ := hd
   have ok : n <= 1000 := ok
   replace ho : H o = some (.ins A.a3m dx [("many", .int n)]) := ho
   have hu := hr.units
   have a := g0g (n := n) (Nat.lt_of_le_of_lt ok (by decide))
   have e0 : Str.empty.length = 0 := rfl
   have e1 : (Str.ofString "delay:").length = 6 := by decide +kernel
   have hs : sizeLine = 16777216 := sizeLine_eq
   have g0 := c0p (t := (n : Int)) (n := 20) (by omega) (by decide)
   unfold nW at a
   refine ⟨_, (a0i (a1j (i := 1) g0k.nd rfl (Or.inl rfl) (a2p (pvF 0) rfl))
   (a0l (a1k (b5r (a3r a3w (a3r (c2g (pvF 1)) g0e)))))), ?_⟩
   walk_at "rd*"
   have w := j7j n
   unfold nW at w
   simp only [strLen_append, e0, e1]
   refine ⟨by omega, by omega, by omega, ?_⟩
   rw [w]
   exact q _ (Same.refl _)
  | _ => simp [Dt.kd] at hk
theorem n3a (T : Tx K mg A) : a1s P A.wd K mg base CX0 2 A.b1j A.d8t ["self"] (i9a A 2) := by
 have a3g : a1s P A.wd K mg base CX0 1 _ _ _ _ := l5n T
 have a2t := T.a2t
 have a1m := T.a1m
 have a1n := T.a1n
 have a1l := T.a1l
 have a0w := T.a0w
 have a0m := T.a0m
 refine T.d3n.ok c7s (fun vs H Q E h => ?_) (fun cdv A' outer s H vs Q E hr h => ?_)
 ·obtain ⟨_, rfl, _⟩ := b7i (by unfold i9a at h; exact h)
  rfl
 ·obtain ⟨o, rfl, ⟨d, hk, hd, ok, q⟩⟩ := b7i (by unfold i9a at h; exact h)
  cases d with
  | echo y n t =>
   obtain ⟨dx, _, ho, g, fa, rfl, hg, hf⟩ := hd
   obtain ⟨oy, n1, n2, t2⟩ := ok
   replace ho : H o = some (.ins A.a3j dx (ecF g fa n t (y.den : Int))) := ho
   unfold ecF at ho
   have hu := hr.units
   have a2u : a2q 1 _ := hr.mono (by decide)
   have a := d0y oy.b.1 oy.b.2
   have b := g0g (n := n) (Nat.lt_of_le_of_lt n2 (by decide))
   have c := g0g (n := t) (Nat.lt_of_le_of_lt t2 (by decide))
   have e0 : Str.empty.length = 0 := rfl
   have e1 : (Str.ofString "echo:").length = 5 := by decide +kernel
   have e2 : (Str.ofString ":").length = 1 := by decide +kernel
   have hs : sizeLine = 16777216 := sizeLine_eq
   have g0 := c0p (t := (n : Int)) (n := 20) (by omega) (by decide)
   have g1 := c0p (t := (t : Int)) (n := 20) (by omega) (by decide)
   have w := l3f y n t
   unfold nW at b c w
   refine ⟨_, (a0i (a1j (i := 1) c7s.nd rfl (Or.inl rfl) (a0r a3g a2u (by rfl) T.a8h T.a2z.kp T.a4t .nil a0p (a0g (a2p (pvF 0) rfl) a0j)))
   (a0i (a1j (i := 2) c7s.nd rfl (Or.inl rfl) (a2p (pvF 0) rfl))
   (a0i (a1j (i := 3) c7s.nd rfl (Or.inl rfl) (a2p (pvF 0) rfl))
   (a0l (a1k (b5r (a3r a3w (a3r (c2g (pvF 1)) (a3r a3w (a3r (c2g (pvF 2)) (a3r a3w (a3r (c2g (pvF 3)) g0e)))))))))))), ?_⟩
   walk_at "rd*"
   refine ⟨y, rfl, oy.b.1, oy.b.2, ?_⟩
   simp only [strLen_append, e0, e1, e2]
   refine ⟨by omega, by omega, by omega, by omega, by omega, by omega, by omega, by omega, by omega, ?_⟩
   rw [w]
   exact q _ (Same.refl _)
  | _ => simp [Dt.kd] at hk
theorem n3b (T : Tx K mg A) : a1s P A.wd K mg base CX0 2 A.b1l A.d8v ["self"] (i9a A 3) := by
 have a3g : a1s P A.wd K mg base CX0 1 _ _ _ _ := l5n T
 have a2y := T.a2y
 have a1u := T.a1u
 have a1v := T.a1v
 refine T.d3p.ok d8m (fun vs H Q E h => ?_) (fun cdv A' outer s H vs Q E hr h => ?_)
 ·obtain ⟨_, rfl, _⟩ := b7i (by unfold i9a at h; exact h)
  rfl
 ·obtain ⟨o, rfl, ⟨d, hk, hd, ok, q⟩⟩ := b7i (by unfold i9a at h; exact h)
  cases d with
  | back y n =>
   obtain ⟨dx, _, ho, g, rfl, hg⟩ := hd
   obtain ⟨oy, n1, n2⟩ := ok
   replace ho : H o = some (.ins A.a4s dx [("gain", .ref g), ("many", .int n)]) := ho
   have hu := hr.units
   have a2u : a2q 1 _ := hr.mono (by decide)
   have a := d0y oy.b.1 oy.b.2
   have b := g0g (n := n) (Nat.lt_of_le_of_lt n2 (by decide))
   have e0 : Str.empty.length = 0 := rfl
   have e1 : (Str.ofString "back:").length = 5 := by decide +kernel
   have e2 : (Str.ofString ":").length = 1 := by decide +kernel
   have hs : sizeLine = 16777216 := sizeLine_eq
   have g0 := c0p (t := (n : Int)) (n := 20) (by omega) (by decide)
   have w := l3g y n
   unfold nW at b w
   refine ⟨_, (a0i (a1j (i := 1) d8m.nd rfl (Or.inl rfl) (a0r a3g a2u (by rfl) T.a8h T.a2z.kp T.a4t .nil a0p (a0g (a2p (pvF 0) rfl) a0j)))
   (a0i (a1j (i := 2) d8m.nd rfl (Or.inl rfl) (a2p (pvF 0) rfl))
   (a0l (a1k (b5r (a3r a3w (a3r (c2g (pvF 1)) (a3r a3w (a3r (c2g (pvF 2)) g0e))))))))), ?_⟩
   walk_at "rd*"
   refine ⟨y, rfl, oy.b.1, oy.b.2, ?_⟩
   simp only [strLen_append, e0, e1, e2]
   refine ⟨by omega, by omega, by omega, by omega, by omega, by omega, ?_⟩
   rw [w]
   exact q _ (Same.refl _)
  | _ => simp [Dt.kd] at hk
theorem n3c (T : Tx K mg A) : a1s P A.wd K mg base CX0 2 A.b1n A.d8y ["self"] (i9a A 4) := by
 have a3g : a1s P A.wd K mg base CX0 1 _ _ _ _ := l5n T
 have a3h := T.a3h
 have a1y := T.a1y
 have a1z := T.a1z
 refine T.d3r.ok d8n (fun vs H Q E h => ?_) (fun cdv A' outer s H vs Q E hr h => ?_)
 ·obtain ⟨_, rfl, _⟩ := b7i (by unfold i9a at h; exact h)
  rfl
 ·obtain ⟨o, rfl, ⟨d, hk, hd, ok, q⟩⟩ := b7i (by unfold i9a at h; exact h)
  cases d with
  | hall y n =>
   obtain ⟨dx, _, ho, g, rfl, hg⟩ := hd
   obtain ⟨oy, yl, n1, n2⟩ := ok
   replace ho : H o = some (.ins A.a4y dx [("gain", .ref g), ("many", .int n)]) := ho
   have hu := hr.units
   have a2u : a2q 1 _ := hr.mono (by decide)
   have a := d0y oy.b.1 oy.b.2
   have b := g0g (n := n) (Nat.lt_of_le_of_lt n2 (by decide))
   have e0 : Str.empty.length = 0 := rfl
   have e1 : (Str.ofString "hall:").length = 5 := by decide +kernel
   have e2 : (Str.ofString ":").length = 1 := by decide +kernel
   have hs : sizeLine = 16777216 := sizeLine_eq
   have g0 := c0p (t := (n : Int)) (n := 20) (by omega) (by decide)
   have w := l3h y n
   unfold nW at b w
   clear yl
   refine ⟨_, (a0i (a1j (i := 1) d8n.nd rfl (Or.inl rfl) (a0r a3g a2u (by rfl) T.a8h T.a2z.kp T.a4t .nil a0p (a0g (a2p (pvF 0) rfl) a0j)))
   (a0i (a1j (i := 2) d8n.nd rfl (Or.inl rfl) (a2p (pvF 0) rfl))
   (a0l (a1k (b5r (a3r a3w (a3r (c2g (pvF 1)) (a3r a3w (a3r (c2g (pvF 2)) g0e))))))))), ?_⟩
   walk_at "rd*"
   refine ⟨y, rfl, oy.b.1, oy.b.2, ?_⟩
   simp only [strLen_append, e0, e1, e2]
   refine ⟨by omega, by omega, by omega, by omega, by omega, by omega, ?_⟩
   rw [w]
   exact q _ (Same.refl _)
  | _ => simp [Dt.kd] at hk
theorem n3d (T : Tx K mg A) : a1s P A.wd K mg base CX0 3 A.a8t A.d2y ["self"] (i9a A 5) := by
 have i4b : a1s P A.wd K mg base CX0 2 _ _ _ _ := n2x T
 have a2i := T.a2i
 have a0q := T.a0q
 have a0s := T.a0s
 have a1g := T.a1g
 refine T.c8l.ok g0m (fun vs H Q E h => ?_) (fun cdv A' outer s H vs Q E hr h => ?_)
 ·obtain ⟨_, rfl, _⟩ := b7i (by unfold i9a at h; exact h)
  rfl
 ·obtain ⟨o, rfl, ⟨d, hk, hd, ok, q⟩⟩ := b7i (by unfold i9a at h; exact h)
  cases d with
  | swell cs =>
   obtain ⟨dx, _, ho, ct, ln, S, ss, us, ps, rfl, hct, hln, TP, sok, R⟩ := hd
   have ok : j6t cs := ok
   replace ho : H o = some (.ins A.a2n dx [("corners", .ref ct), ("shared", .int S), ("lines", .ref ln)]) := ho
   have hu := hr.units
   have h6r : a2q 2 _ := hr.mono (by decide)
   have pl := R.1
   have hs : sizeLine = 16777216 := sizeLine_eq
   have cl := ok.len
   have L12 := ok.2.2.2
   have e2 : (Str.ofString ",").length = 1 := by decide +kernel
   have jo : JoinOk (Str.ofString ",") (cs.map cW) = true := joinOk_of (n := 45) (fun y hy => by obtain ⟨c, hc, rfl⟩ := List.mem_map.mp hy; exact cl c hc) (by rw [List.length_map, e2, hs]; omega)
   have jl : (Txt.join (Str.ofString ",") (cs.map cW)).length ≤ 600 := by
    rw [l7z, l7y]
    exact ok.n0l
   have e0 : Str.empty.length = 0 := rfl
   have e1 : (Str.ofString "swell:").length = 6 := by decide +kernel
   refine ⟨_, (a0i (a1j (i := 1) g0m.nd rfl (Or.inl rfl) (b5q c0l PySem.F.plainAttrs_str PySem.F.slot_str_join PySem.F.type_str_join k4k a3w (a0g (c4i (m2c (a2p (pvF 0) rfl)) (fun _ _ _ _ _ => (a0r i4b h6r (by rfl) T.i2x T.b6l.kp T.d3s .nil a0p (a0g (pvF 0) a0j))) (f5m (sc := a0h b0u) (N := ["self", "corners"]) rfl rfl (by decide +kernel)) rfl) a0j)))
   (a0l (a1k (b5r (a3r a3w (a3r (c2g (pvF 1)) g0e)))))), ?_⟩
   walk_at "rd*"
   intro D H2 n2 S2 h2
   refine l5p (cs.map fun c => V.str (cW c)) (by rw [List.length_map, List.length_map, pl]) n2 S2 h2 hct (by rw [List.length_map, pl, hs]; omega) ?_ ?_
   ·intro i x z H' Q' hx hz S' q'
    obtain ⟨p, c, g, rfl, hc, hp, hg⟩ := R.get hx
    rw [List.getElem?_map, hc] at hz
    cases hz
    have hp' := S' _ _ hp
    have hg' := S' _ _ hg
    obtain ⟨o1, o2, oy⟩ := ok.1 c (List.mem_of_getElem? hc)
    clear ho hct hln h2 hp hg
    walk_at "rd*"
    exact ⟨c, g, ⟨rfl, rfl⟩, hg', by omega, oy.b.1, oy.b.2, q'⟩
   intro H3 S3 h3
   clear h2
   walk_at "rd*"
   refine ⟨cs.map cW, by rw [List.map_map]; rfl, jo, by omega, ?_, ?_, ?_⟩
   ·rw [strLen_append, e0, e1]
    omega
   ·rw [strLen_append, strLen_append, e0, e1]
    omega
   ·rw [j7k]
    exact q H3 S3
  | _ => simp [Dt.kd] at hk
theorem i1d {n S S' d : Int} (hd : d ≠ 0) (h1 : d ∣ S) (h2 : d ∣ S') : n * S.fdiv d * S' = n * S'.fdiv d * S := by
 obtain ⟨x, rfl⟩ := h1
 obtain ⟨y, rfl⟩ := h2
 rw [Int.mul_fdiv_cancel_left _ hd, Int.mul_fdiv_cancel_left _ hd]
 grind
theorem j9g {S S' t : Int} {c : Int × Rat} {s : Rat} (c1 : (c.2.den : Int) ∣ S) (c2 : (c.2.den : Int) ∣ S') (s1 : (s.den : Int) ∣ S) (s2 : (s.den : Int) ∣ S') : g2u S t c s * S' = g2u S' t c s * S := by
 unfold g2u
 have a := i1d (n := c.2.num) (k4w c.2) c1 c2
 have b := i1d (n := s.num) (k4w s) s1 s2
 generalize max 0 (t - c.1) = m
 generalize c.2.num * S.fdiv c.2.den = u at *
 generalize c.2.num * S'.fdiv c.2.den = u' at *
 generalize s.num * S.fdiv s.den = v at *
 generalize s.num * S'.fdiv s.den = v' at *
 rw [Int.add_mul, Int.add_mul, a, Int.mul_right_comm, b, Int.mul_right_comm]
theorem j1p {S S' t : Int} : ∀ (cs : List (Int × Rat)) (ss : List Rat), (∀ c ∈ cs, (c.2.den : Int) ∣ S /\ (c.2.den : Int) ∣ S') -> (∀ s ∈ ss, (s.den : Int) ∣ S /\ (s.den : Int) ∣ S') -> h2b S t cs ss * S' = h2b S' t cs ss * S
 | [], ss, _, _ => by cases ss <;> simp [h2b]
 | c :: cs, [], _, _ => by simp [h2b]
 | c :: cs, s :: ss, hc, hs => by
  have h1 := hc c (List.mem_cons_self ..)
  have h2 := hs s (List.mem_cons_self ..)
  have g := j9g (t := t) h1.1 h1.2 h2.1 h2.2
  cases cs with
  | nil => exact g
  | cons d r =>
   have ih := j1p (t := t) (d :: r) ss (fun c hx => hc c (List.mem_cons_of_mem _ hx)) (fun s hx => hs s (List.mem_cons_of_mem _ hx))
   show (if t < d.1 then g2u S t c s else h2b S t (d :: r) ss) * S' = (if t < d.1 then g2u S' t c s else h2b S' t (d :: r) ss) * S
   split
   ·exact g
   ·exact ih
theorem k7t {a b c : Rat} (hc : c ≠ 0) (h : a * c = b * c) : a = b := by
 have := congrArg (· * c⁻¹) h
 simpa [Rat.mul_assoc, Rat.mul_inv_cancel _ hc, Rat.mul_one] using this
theorem h2q {cs : List (Int × Rat)} {k : Int} {ss ss' : List Rat} {S S' : Int} (O : ∀ (i : Nat) c d, cs[i]? = some c -> cs[i + 1]? = some d -> c.1 < d.1) (h : SwOk cs ss S) (h' : SwOk (cs.map fun c => (c.1 + k, c.2)) ss' S') : ss' = ss := by
 obtain ⟨a1, a2, a3, _⟩ := h
 obtain ⟨b1, b2, b3, _⟩ := h'
 rw [List.length_map] at b1 b3
 apply List.ext_getElem?
 intro i
 by_cases hi : i < cs.length
 ·have e1 : ss[i]? = some ss[i] := List.getElem?_eq_getElem (by omega)
  have e2 : ss'[i]? = some ss'[i] := List.getElem?_eq_getElem (by omega)
  by_cases hl : i + 1 < cs.length
  ·have c1 : cs[i]? = some cs[i] := List.getElem?_eq_getElem _
   have c2 : cs[i + 1]? = some cs[i + 1] := List.getElem?_eq_getElem _
   have lt := O i _ _ c1 c2
   have p := a2 i _ e1 _ _ c1 c2
   have q := b2 i _ e2 (cs[i].1 + k, cs[i].2) (cs[i + 1].1 + k, cs[i + 1].2) (by rw [List.getElem?_map, c1]; rfl) (by rw [List.getElem?_map, c2]; rfl)
   have z : ((cs[i + 1].1 - cs[i].1 : Int) : Rat) ≠ 0 := fun e => by
    have := Rat.intCast_inj.mp (e.trans (by rfl : (0 : Rat) = ((0 : Int) : Rat)))
    omega
   rw [show (cs[i + 1].1 + k, cs[i + 1].2).1 - (cs[i].1 + k, cs[i].2).1 = cs[i + 1].1 - cs[i].1 by show cs[i + 1].1 + k - (cs[i].1 + k) = _; omega] at q
   rw [e1, e2, k7t z (q.trans p.symm)]
  ·have : i = cs.length - 1 := by omega
   subst this
   rw [a3, b3]
 ·rw [List.getElem?_eq_none (by omega), List.getElem?_eq_none (by omega)]
theorem k5f {S t : Int} (hS : intBits S <= 1600) (t0 : 0 <= t) (t1 : t <= 100000) : ∀ (cs : List (Int × Rat)) (ss : List Rat), (∀ c ∈ cs, 0 <= c.1 /\ intBits c.2.num <= 10) -> (∀ s ∈ ss, intBits s.num <= 60) -> intBits (h2b S t cs ss) <= 2000
 | [], ss, _, _ => by cases ss <;> (show intBits 0 <= 2000; decide)
 | c :: cs, [], _, _ => by show intBits 0 <= 2000; decide
 | c :: cs, s :: ss, h1, h2 => by
  have g : intBits (g2u S t c s) <= 2000 := by
   have Oc := h1 c List.mem_cons_self
   have b1 : intBits (c.2.num * S.fdiv c.2.den) <= 10 + 1600 := intBits_mul_le Oc.2 (intBits_fdiv_le hS)
   have b2 : intBits (s.num * S.fdiv s.den) <= 60 + 1600 := intBits_mul_le (h2 s List.mem_cons_self) (intBits_fdiv_le hS)
   have b3 : intBits (max 0 (t - c.1)) <= 64 := intBits_le_64 (by omega) (by omega)
   exact Nat.le_trans (intBits_add_le b1 (intBits_mul_le b2 b3)) (by decide)
  cases cs with
  | nil => exact g
  | cons d r =>
   show intBits (if t < d.1 then g2u S t c s else h2b S t (d :: r) ss) <= 2000
   split
   ·exact g
   ·exact k5f hS t0 t1 (d :: r) ss (fun c hc => h1 c (List.mem_cons_of_mem _ hc)) (fun s hs => h2 s (List.mem_cons_of_mem _ hs))
theorem i1e {X : Nat -> Int} {p q : Int} {t B : Nat} (bp : intBits p <= 10) (bq : intBits q <= 10) (ht : t <= 16) (hX : ∀ m, intBits (X m) <= B) : ∀ j, j <= t + 1 -> intBits (i0t X p q t j) <= B + 176 + j
 | 0, _ => by rw [i0t]; exact Nat.le_trans (by decide : intBits 0 <= 1) (by omega)
 | j + 1, h => by
  rw [i0t]
  have h1 := i1e bp bq ht hX j (by omega)
  have h2 : intBits (X j * m0t p q t j) <= B + 176 + j := Nat.le_trans (intBits_mul_le (hX j) (j1a bp bq ht (by omega))) (by omega)
  exact Nat.le_trans (intBits_add_le h1 h2) (by omega)
theorem m3u {y : Rat} {n : Nat} (ok : (Dt.hall y n).ok) : 1 <= (y.den : Int) /\ (y.num.natAbs : Int) <= (y.den : Int) := by
 obtain ⟨oy, yl, n1, n2⟩ := ok
 have dp := y.den_pos
 exact ⟨by omega, Int.le_of_lt yl⟩
theorem l5q {A : Ad} {H : Hp} {o : Addr} {d : Dt} {S b : Int} {ss : List Rat} (ok : d.ok) (h : g2v A H o d S ss) (b1 : 1 <= b) {xs : List Int} {B : Nat} (B1 : 1 <= B) (hx : ∀ y ∈ xs, intBits y <= B) {i : Nat} (hi : i <= 100000) : intBits (g0t b S ss xs i d) <= B + 2000 + xs.length := by
 have gx := c4g hx B1
 have gz : ∀ (c : Prop) [Decidable c] (j : Nat), intBits (if c then xs.getD j 0 else 0) <= B := fun c _ j => by
  split
  ·exact gx j
  ·exact Nat.le_trans (by decide : intBits 0 <= 1) B1
 cases d with
 | gain y => exact Nat.le_trans (intBits_mul_le (gx i) (YOk.b ok).1) (by omega)
 | delay n => exact Nat.le_trans (gz _ _) (by omega)
 | echo y n t =>
  have yb := YOk.b ok.1
  have ht := ok.2.2.2
  exact Nat.le_trans (i1e yb.1 yb.2 ht (fun m => gz _ _) (t + 1) (Nat.le_refl _)) (by omega)
 | back y n =>
  have yb := YOk.b ok.1
  exact Nat.le_trans (intBits_add_le (intBits_mul_le (gx i) yb.2) (intBits_mul_le (gz _ _) (intBits_neg_le yb.1))) (by omega)
 | hall y n =>
  obtain ⟨q1, hp⟩ := m3u ok
  exact Nat.le_trans (c4g (f3y q1 b1 hp xs [] B B1 (fun z hz => by cases hz) hx) (by omega) i) (by omega)
 | swell cs =>
  obtain ⟨dx, _, ho, ct, ln, us, ps, rfl, hct, hln, TP, sok, R⟩ := h
  have c1 := (j6t.crn ok).1
  have g1 := k5f sok.2.2.2.2.1 (t := (i : Int)) (by omega) (by omega) cs ss (fun c hc => ⟨(c1 c hc).1, (c1 c hc).2.2.1⟩) sok.2.2.2.2.2.2.2.1
  exact Nat.le_trans (intBits_mul_le g1 (gx i)) (by omega)
theorem c5n {A : Ad} {H : Hp} {o : Addr} {d : Dt} {S : Int} {ss : List Rat} (ok : d.ok) (fw : Dt.few d) (h : g2v A H o d S ss) : intBits (b8z S d) <= 600 := by
 cases d with
 | gain y => exact Nat.le_trans (YOk.b ok).2 (by decide)
 | delay n => exact (show intBits 1 <= 600 by decide)
 | echo y n t => exact Nat.le_trans (f3w (YOk.b ok.1).2 t) (by have := ok.2.2.2; omega)
 | back y n => exact Nat.le_trans (YOk.b ok.1).2 (by decide)
 | hall y n => exact (show intBits 1 <= 600 by decide)
 | swell cs =>
  obtain ⟨dx, _, ho, ct, ln, us, ps, rfl, hct, hln, TP, sok, R⟩ := h
  have fw : cs.length <= 4 := fw
  exact Nat.le_trans sok.2.2.2.2.2.2.2.2.1 (by omega)
theorem i1f {t t' b b' : Int} (hb : 0 < b) (hb' : 0 < b') (h : t * b' = t' * b) : t.fdiv b = t'.fdiv b' := by
 have e1 : (t * b').fdiv (b * b') = t.fdiv b := Int.mul_fdiv_mul_of_pos_left _ _ hb'
 have e2 : (t' * b).fdiv (b' * b) = t'.fdiv b' := Int.mul_fdiv_mul_of_pos_left _ _ hb
 rw [<- e1, <- e2, h, Int.mul_comm b b']
theorem twn_cross {t t' b b' : Int} (hb : 0 < b) (hb' : 0 < b') (h : t * b' = t' * b) : twn t b = twn t' b' := by
 have s : 0 <= t ↔ 0 <= t' := by
  constructor
  ·intro z
   have : 0 <= t' * b := by rw [<- h]; exact Int.mul_nonneg z (by omega)
   exact Int.nonneg_of_mul_nonneg_left this hb
  ·intro z
   have : 0 <= t * b' := by rw [h]; exact Int.mul_nonneg z (by omega)
   exact Int.nonneg_of_mul_nonneg_left this hb'
 unfold twn
 by_cases z : 0 <= t
 ·rw [if_pos z, if_pos (s.mp z), i1f hb hb' h]
 ·rw [if_neg z, if_neg (fun y => z (s.mpr y)), i1f hb hb' (by rw [Int.neg_mul, Int.neg_mul, h])]
theorem i1g {X X' : Nat -> Int} {b b' p q : Int} {t : Nat} (h : ∀ m, X m * b' = X' m * b) : ∀ j, i0t X p q t j * b' = i0t X' p q t j * b
 | 0 => by rw [i0t, i0t, Int.zero_mul, Int.zero_mul]
 | j + 1 => by
  rw [i0t, i0t, Int.add_mul, Int.add_mul, i1g h j, Int.mul_right_comm, h j, Int.mul_right_comm (X' j)]
theorem Crs.snoc {b b' x x' : Int} {xs xs' : List Int} (h : Crs b b' xs xs') (hx : x * b' = x' * b) : Crs b b' (xs ++ [x]) (xs' ++ [x']) := by
 refine ⟨by rw [List.length_append, List.length_append, h.1]; rfl, fun i => ?_⟩
 rw [d4j, d4j, <- h.1]
 split
 ·exact h.2 i
 ·cases hi : i - xs.length with
  | zero => exact hx
  | succ k =>
   show (0 : Int) * b' = 0 * b
   rw [Int.zero_mul, Int.zero_mul]
theorem j9h {b b' : Int} {n : Nat} {kn kn' : List Int} (h : Crs b b' kn kn') : heard kn n * b' = heard kn' n * b := by
 unfold heard
 rw [<- h.1]
 split
 ·exact h.2 _
 ·rw [Int.zero_mul, Int.zero_mul]
theorem i1h {p q b b' : Int} {n : Nat} (q1 : 0 < q) (hb : 0 < b) (hb' : 0 < b') : ∀ (ys ys' kn kn' : List Int), Crs b b' kn kn' -> Crs b b' ys ys' -> Crs b b' (hallL p q b n kn ys) (hallL p q b' n kn' ys')
 | [], [], kn, kn', h, _ => h
 | [], _ :: _, _, _, _, h => by cases h.1
 | _ :: _, [], _, _, _, h => by cases h.1
 | y :: ys, y' :: ys', kn, kn', h, hy => by
  have h0 := hy.2 0
  have ht : Crs b b' ys ys' := ⟨Nat.succ.inj hy.1, fun i => hy.2 (i + 1)⟩
  have hh := j9h (n := n) h
  have e : twn (p * heard kn n) (q * b) = twn (p * heard kn' n) (q * b') := twn_cross (Int.mul_pos q1 hb) (Int.mul_pos q1 hb') (by
   rw [show p * heard kn n * (q * b') = p * q * (heard kn n * b') by grind, hh]
   grind)
  rw [hallL, hallL]
  refine i1h q1 hb hb' ys ys' _ _ (h.snoc ?_) ht
  replace h0 : y * b' = y' * b := h0
  show (y + twn (p * heard kn n) (q * b) * b) * b' = (y' + twn (p * heard kn' n) (q * b') * b') * b
  rw [e, Int.add_mul, Int.add_mul, h0, Int.mul_right_comm]
theorem l5r {A : Ad} {H H' : Hp} {o o' : Addr} {d : Dt} {S S' : Int} {ss ss' : List Rat} {b b' : Int} {xs xs' : List Int} (ok : d.ok) (h : g2v A H o d S ss) (h' : g2v A H' o' d S' ss') (hb : 0 < b) (hb' : 0 < b') (hx : Crs b b' xs xs') (i : Nat) :
  g0t b S ss xs i d * (b' * b8z S' d) = g0t b' S' ss' xs' i d * (b * b8z S d) := by
 have g2 : ∀ n, (if n <= i then xs.getD (i - n) 0 else 0) * b' = (if n <= i then xs'.getD (i - n) 0 else 0) * b := fun n => by
  split
  ·exact hx.2 _
  ·rw [Int.zero_mul, Int.zero_mul]
 have gi := hx.2 i
 cases d with
 | gain y =>
  show xs.getD i 0 * y.num * (b' * (y.den : Int)) = xs'.getD i 0 * y.num * (b * (y.den : Int))
  grind
 | delay n =>
  show (if n <= i then xs.getD (i - n) 0 else 0) * (b' * 1) = (if n <= i then xs'.getD (i - n) 0 else 0) * (b * 1)
  rw [Int.mul_one, Int.mul_one]
  exact g2 n
 | echo y n t =>
  have := i1g (p := y.num) (q := (y.den : Int)) (t := t) (fun m => g2 (m * n)) (t + 1)
  show i0t _ _ _ _ _ * (b' * (y.den : Int) ^ t) = i0t _ _ _ _ _ * (b * (y.den : Int) ^ t)
  rw [<- Int.mul_assoc, this, Int.mul_assoc]
 | back y n =>
  have g := g2 n
  show (xs.getD i 0 * (y.den : Int) + (if n <= i then xs.getD (i - n) 0 else 0) * (-y.num)) * (b' * (y.den : Int)) = (xs'.getD i 0 * (y.den : Int) + (if n <= i then xs'.getD (i - n) 0 else 0) * (-y.num)) * (b * (y.den : Int))
  generalize (if n <= i then xs.getD (i - n) 0 else 0) = u at g
  generalize (if n <= i then xs'.getD (i - n) 0 else 0) = u' at g
  grind
 | hall y n =>
  have dp : 0 < (y.den : Int) := by have := y.den_pos; omega
  have := (i1h (p := y.num) (n := n) dp hb hb' xs xs' [] [] ⟨rfl, fun i => by rw [List.getD_nil]; rw [Int.zero_mul, Int.zero_mul]⟩ hx).2 i
  show (hallL y.num y.den b n [] xs).getD i 0 * (b' * 1) = (hallL y.num y.den b' n [] xs').getD i 0 * (b * 1)
  rw [Int.mul_one, Int.mul_one]
  exact this
 | swell cs =>
  obtain ⟨dx, _, ho, ct, ln, us, ps, rfl, hct, hln, TP, sok, R⟩ := h
  obtain ⟨dx', _, ho', ct', ln', us', ps', rfl, hct', hln', TP', sok', R'⟩ := h'
  have ok : j6t cs := ok
  have m0 : cs.map (fun c => (c.1 + (0 : Int), c.2)) = cs := by simp
  have e := h2q (k := 0) ok.2.1 sok (by rw [m0]; exact sok')
  subst e
  have gc : h2b S (i : Int) cs ss' * S' = h2b S' (i : Int) cs ss' * S := j1p cs ss' (fun c hc => ⟨sok.2.2.2.2.2.1 c hc, sok'.2.2.2.2.2.1 c hc⟩) (fun s hs => ⟨sok.2.2.2.2.2.2.1 s hs, sok'.2.2.2.2.2.2.1 s hs⟩)
  show h2b S (i : Int) cs ss' * xs.getD i 0 * (b' * S') = h2b S' (i : Int) cs ss' * xs'.getD i 0 * (b * S)
  generalize h2b S (i : Int) cs ss' = u at gc
  generalize h2b S' (i : Int) cs ss' = u' at gc
  generalize xs.getD i 0 = x at gi
  generalize xs'.getD i 0 = x' at gi
  grind
theorem g0z {A : Ad} {H : Hp} {o : Addr} {d : Dt} {S : Int} {ss : List Rat} (h : g2v A H o d S ss) : 1 <= b8z S d := by
 cases d with
 | gain y => have := y.den_pos; show (1 : Int) <= (y.den : Int); omega
 | delay n => exact Int.le_refl _
 | echo y n t =>
  have := y.den_pos
  show (1 : Int) <= (y.den : Int) ^ t
  exact Int.pow_pos (by omega)
 | back y n => have := y.den_pos; show (1 : Int) <= (y.den : Int); omega
 | hall y n => exact Int.le_refl _
 | swell cs =>
  obtain ⟨dx, _, ho, ct, ln, us, ps, rfl, hct, hln, TP, sok, R⟩ := h
  exact sok.2.2.2.1
theorem f4g : ∀ (ds : List (Dt × Int × List Rat)) (b : Int) (xs : List Int), (g1t ds b xs).length = xs.length
 | [], _, xs => rfl
 | x :: ds, b, xs => (f4g ds _ _).trans (a4z x.1 b x.2.1 x.2.2 [] xs)
theorem i4c : ∀ (ds : List (Dt × Int × List Rat)) (b : Int) (a c : List Int), (l6n ds b a c).length = c.length
 | [], _, a, c => rfl
 | x :: ds, b, a, c => (i4c ds _ _ _).trans (a4z x.1 b x.2.1 x.2.2 a c)
theorem h0d : ∀ (ds : List (Dt × Int × List Rat)) (b : Int) (a c : List Int), g1t ds b (a ++ c) = g1t ds b a ++ l6n ds b a c
 | [], _, a, c => rfl
 | x :: ds, b, a, c => by
  show g1t ds _ (f6w x b [] (a ++ c)) = g1t ds _ (f6w x b [] a) ++ l6n ds _ (f6w x b [] a) (f6w x b a c)
  unfold f6w
  rw [l8t, List.nil_append, h0d ds]
theorem g1a (b : Int) (ds : List (Dt × Int × List Rat)) (x : (Dt × Int × List Rat)) : g2x b (ds ++ [x]) = g2x b ds * gn6 x := by
 unfold g2x
 rw [List.foldl_append]
 rfl
theorem j1q : ∀ (ds : List (Dt × Int × List Rat)) (x : (Dt × Int × List Rat)) (b : Int) (a c : List Int), l6n (ds ++ [x]) b a c = f6w x (g2x b ds) (g1t ds b a) (l6n ds b a c)
 | [], x, b, a, c => rfl
 | e :: ds, x, b, a, c => j1q ds x _ _ _
theorem j1r : ∀ (ds : List (Dt × Int × List Rat)) (x : (Dt × Int × List Rat)) (b : Int) (a : List Int), g1t (ds ++ [x]) b a = f6w x (g2x b ds) [] (g1t ds b a)
 | [], x, b, a => rfl
 | e :: ds, x, b, a => j1r ds x _ _
theorem i1i {A : Ad} {H H' : Hp} : ∀ (ds ds' : List (Dt × Int × List Rat)) (os os' : List Addr) {b b' : Int} {xs xs' : List Int}, ds.map (·.1) = ds'.map (·.1) -> (∀ x ∈ ds, x.1.ok) ->
  (∀ (i : Nat) o x, os[i]? = some o -> ds[i]? = some x -> g2v A H o x.1 x.2.1 x.2.2) -> (∀ (i : Nat) o x, os'[i]? = some o -> ds'[i]? = some x -> g2v A H' o x.1 x.2.1 x.2.2) -> os.length = ds.length -> os'.length = ds'.length -> 0 < b -> 0 < b' -> Crs b b' xs xs' ->
  Crs (g2x b ds) (g2x b' ds') (g1t ds b xs) (g1t ds' b' xs')
 | [], [], _, _, _, _, _, _, _, _, _, _, _, _, _, _, h => h
 | [], _ :: _, _, _, _, _, _, _, e, _, _, _, _, _, _, _, _ => by cases e
 | _ :: _, [], _, _, _, _, _, _, e, _, _, _, _, _, _, _, _ => by cases e
 | x :: ds, x' :: ds', [], _, _, _, _, _, _, _, _, _, l, _, _, _, _ => by cases l
 | x :: ds, x' :: ds', _ :: _, [], _, _, _, _, _, _, _, _, _, l, _, _, _ => by cases l
 | x :: ds, x' :: ds', o :: os, o' :: os', b, b', xs, xs', e, ok, h, h', l, l', hb, hb', hx => by
  rw [List.map_cons, List.map_cons] at e
  injection e with e1 e2
  have p := h 0 o x rfl rfl
  have p' := h' 0 o' x' rfl rfl
  have okx := ok x List.mem_cons_self
  rw [<- e1] at p'
  have gp := g0z p
  have gp' := g0z p'
  have g6 : gn6 x = b8z x.2.1 x.1 := rfl
  have g6' : gn6 x' = b8z x'.2.1 x.1 := by unfold gn6; rw [<- e1]
  refine i1i ds ds' os os' e2 (fun z hz => ok z (List.mem_cons_of_mem _ hz)) (fun i o z h1 h2 => h (i + 1) o z h1 h2) (fun i o z h1 h2 => h' (i + 1) o z h1 h2) (Nat.succ.inj l) (Nat.succ.inj l') (Int.mul_pos hb (by omega)) (Int.mul_pos hb' (by omega)) ?_
  refine ⟨by unfold f6w; rw [a4z, a4z, hx.1], fun i => ?_⟩
  unfold f6w
  rcases Nat.lt_or_ge i xs.length with z | z
  ·rw [c2w z, c2w (by rw [<- hx.1]; exact z), List.nil_append, List.nil_append, List.length_nil, Nat.zero_add]
   show g0t b x.2.1 x.2.2 xs i x.1 * (b' * gn6 x') = g0t b' x'.2.1 x'.2.2 xs' i x'.1 * (b * gn6 x)
   rw [g6, g6', <- e1]
   exact l5r okx p p' hb hb' hx i
  ·rw [List.getD_eq_getElem?_getD, List.getD_eq_getElem?_getD, List.getElem?_eq_none (by rw [a4z]; exact z), List.getElem?_eq_none (by rw [a4z, <- hx.1]; exact z)]
   show (0 : Int) * _ = 0 * _
   rw [Int.zero_mul, Int.zero_mul]
theorem h0a.same {A : Ad} {H H' : Hp} {os : List Addr} {ds : List (Dt × Int × List Rat)} (h : h0a A H os ds) (S : Same H H') : h0a A H' os ds := ⟨h.1, fun i o d e1 e2 => (h.2 i o d e1 e2).same S⟩
theorem Sts.same {H H' : Hp} {b : Int} {ds : List (Dt × Int × List Rat)} {sts : List V} {xs : List Int} (h : Sts H b ds sts xs) (S : Same H H') : Sts H' b ds sts xs := ⟨h.1, fun i o d e1 e2 => (h.2 i o d e1 e2).same S⟩
theorem ChP.same {A : Ad} {H H' : Hp} {o pl sl : Addr} {b : Int} {ds : List (Dt × Int × List Rat)} {xs : List Int} (h : ChP A H o pl sl b ds xs) (S : Same H H') : ChP A H' o pl sl b ds xs := by
 obtain ⟨dx, os, sts, h1, h2, h3, h4, h5⟩ := h
 exact ⟨dx, os, sts, S _ _ h1, S _ _ h2, S _ _ h3, h4.same S, h5.same S⟩
theorem Lk.lst {H : Hp} {D : Addr} {ys : List V} (h : H D = some (.lst ys)) : Lk H D := ⟨fun ts e => (by rw [h] at e; cases e), fun c dx fs e => (by rw [h] at e; cases e)⟩
theorem Lk.ins {H : Hp} {D : Addr} {c dx : Addr} {fs : List (Str × V)} (h : H D = some (.ins c dx fs)) (hf : fs = [] \/ (∃ pl : V, fs = ch1 pl) \/ ∃ pl sl, fs = chF pl sl) : Lk H D := ⟨fun ts e => (by rw [h] at e; cases e), fun c dx fs e => (by rw [h] at e; cases e; exact hf)⟩
theorem StV.d4k {D : Addr} {H H' : Hp} {b : Int} {xs : List Int} {st : V} {d : Dt} (h : StV H b xs st d) (hD : Lk H D) (Z : a6j D H H') : StV H' b xs st d := by
 have ne : ∀ {p : Addr} {ts : List V}, H p = some (.tup ts) -> H' p = some (.tup ts) := fun hp => Z _ _ (fun e => by rw [e] at hp; exact hD.1 _ hp) hp
 cases d with
 | gain y => exact h
 | delay n => obtain ⟨p, e, h⟩ := h; exact ⟨p, e, ne h⟩
 | echo y n t => obtain ⟨p, e, h⟩ := h; exact ⟨p, e, ne h⟩
 | back y n => obtain ⟨p, e, h⟩ := h; exact ⟨p, e, ne h⟩
 | hall y n => obtain ⟨p, e, h⟩ := h; exact ⟨p, e, ne h⟩
 | swell cs => exact h
theorem g2v.d4k {A : Ad} {D : Addr} {H H' : Hp} {o : Addr} {d : Dt} {S : Int} {ss : List Rat} (h : g2v A H o d S ss) (hD : Lk H D) (Z : a6j D H H') : g2v A H' o d S ss := by
 have ne : ∀ {p : Addr} {ts : List V}, H p = some (.tup ts) -> H' p = some (.tup ts) := fun hp => Z _ _ (fun e => by rw [e] at hp; exact hD.1 _ hp) hp
 obtain ⟨dx, fs, h1, h2⟩ := h
 refine ⟨dx, fs, Z _ _ (fun e => ?_) h1, ?_⟩
 ·rw [e] at h1
  have np : ∀ {n : Str} {v : V} {r : List (Str × V)}, fs = (n, v) :: r → n ≠ ("parts" : Str) → False := fun e1 hn => by
   rcases hD.2 _ _ _ h1 with z | ⟨pl, z⟩ | ⟨pl, sl, z⟩ <;> rw [z] at e1
   ·cases e1
   ·injection e1 with e1 _
    injection e1 with e1 _
    exact hn e1.symm
   ·injection e1 with e1 _
    injection e1 with e1 _
    exact hn e1.symm
  cases d with
  | gain y => obtain ⟨g, e, _⟩ := h2; exact np e (by decide +kernel)
  | delay n => exact np h2 (by decide +kernel)
  | echo y n t => obtain ⟨g, fa, e, _⟩ := h2; exact np e (by decide +kernel)
  | back y n => obtain ⟨g, e, _⟩ := h2; exact np e (by decide +kernel)
  | hall y n => obtain ⟨g, e, _⟩ := h2; exact np e (by decide +kernel)
  | swell cs => obtain ⟨ct, ln, us, ps, e, _⟩ := h2; exact np e (by decide +kernel)
 ·cases d with
  | gain y => obtain ⟨g, e, h1⟩ := h2; exact ⟨g, e, ne h1⟩
  | delay n => exact h2
  | echo y n t => obtain ⟨g, fa, e, h1, h2⟩ := h2; exact ⟨g, fa, e, ne h1, ne h2⟩
  | back y n => obtain ⟨g, e, h1⟩ := h2; exact ⟨g, e, ne h1⟩
  | hall y n => obtain ⟨g, e, h1⟩ := h2; exact ⟨g, e, ne h1⟩
  | swell cs =>
   obtain ⟨ct, ln, us, ps, e, h1, h2, h3, h4, h5⟩ := h2
   exact ⟨ct, ln, us, ps, e, ne h1, ne h2, ⟨h3.1, fun i q v e1 e2 => ne (h3.2 i q v e1 e2)⟩, h4, ⟨h5.1, fun i p c e1 e2 => (h5.2 i p c e1 e2).elim fun g z => ⟨g, ne z.1, ne z.2⟩⟩⟩
theorem h0a.d4k {A : Ad} {D : Addr} {H H' : Hp} {os : List Addr} {ds : List (Dt × Int × List Rat)} (h : h0a A H os ds) (hD : Lk H D) (Z : a6j D H H') : h0a A H' os ds := ⟨h.1, fun i o d e1 e2 => (h.2 i o d e1 e2).d4k hD Z⟩
theorem Sts.snoc {H : Hp} {b : Int} {ds : List (Dt × Int × List Rat)} {x : (Dt × Int × List Rat)} {sts : List V} {st : V} {xs : List Int} (h : Sts H b ds sts xs) (hs : StV H (g2x b ds) (g1t ds b xs) st x.1) : Sts H b (ds ++ [x]) (sts ++ [st]) xs := by
 obtain ⟨hl, h⟩ := h
 refine ⟨by rw [List.length_append, List.length_append, hl]; rfl, fun i s e h1 h2 => ?_⟩
 rcases Nat.lt_or_ge i ds.length with z | z
 ·rw [List.getElem?_append_left (by omega)] at h1
  rw [List.getElem?_append_left z] at h2
  rw [List.take_append_of_le_length (by omega)]
  exact h i s e h1 h2
 ·have hi := (List.getElem?_eq_some_iff.mp h2).1
  rw [List.length_append, List.length_singleton] at hi
  obtain rfl : i = ds.length := by omega
  rw [<- hl, List.getElem?_concat_length] at h1
  rw [List.getElem?_concat_length] at h2
  cases h1
  cases h2
  rw [List.take_append_of_le_length (Nat.le_refl _), List.take_length]
  exact hs
theorem Sts.d4k {D : Addr} {H H' : Hp} {b : Int} {ds : List (Dt × Int × List Rat)} {sts : List V} {xs : List Int} (h : Sts H b ds sts xs) (hD : Lk H D) (Z : a6j D H H') : Sts H' b ds sts xs := ⟨h.1, fun i o d e1 e2 => (h.2 i o d e1 e2).d4k hD Z⟩
theorem h0a.snoc {A : Ad} {H : Hp} {os : List Addr} {ds : List (Dt × Int × List Rat)} {o : Addr} {d : (Dt × Int × List Rat)} (h : h0a A H os ds) (hp : g2v A H o d.1 d.2.1 d.2.2) : h0a A H (os ++ [o]) (ds ++ [d]) := by
 obtain ⟨hl, h⟩ := h
 refine ⟨by rw [List.length_append, List.length_append, hl]; rfl, fun i s e h1 h2 => ?_⟩
 rcases Nat.lt_or_ge i ds.length with z | z
 ·rw [List.getElem?_append_left (by omega)] at h1
  rw [List.getElem?_append_left z] at h2
  exact h i s e h1 h2
 ·have hi := (List.getElem?_eq_some_iff.mp h2).1
  rw [List.length_append, List.length_singleton] at hi
  obtain rfl : i = ds.length := by omega
  rw [<- hl, List.getElem?_concat_length] at h1
  rw [List.getElem?_concat_length] at h2
  cases h1
  cases h2
  exact hp
theorem ChP.other {A : Ad} {D : Addr} {H H' : Hp} {o pl sl : Addr} {b : Int} {ds : List (Dt × Int × List Rat)} {xs : List Int} {ys : List V} (h : ChP A H o pl sl b ds xs) (hD : H D = some (.lst ys)) (d1 : pl ≠ D) (d2 : sl ≠ D) (B : a6j D H H') : ChP A H' o pl sl b ds xs := by
 obtain ⟨dx, os, sts, h1, h2, h3, h4, h5⟩ := h
 exact ⟨dx, os, sts, B _ _ (fun q => by rw [q, hD] at h1; cases h1) h1, B _ _ d1 h2, B _ _ d2 h3, h4.d4k (Lk.lst hD) B, h5.d4k (Lk.lst hD) B⟩
theorem m9d (T : Tx K mg A) : a1s P A.wd K mg base CX0 9 A.b8o A.f5y ["words"] (m3a A) := by
 have b3k : a1s P A.wd K mg base CX0 8 _ _ _ _ := j9d T
 refine T.d1w.ok j7q (fun vs H Q E h => ?_) (fun cdv A' outer s H vs Q E hr h => ?_)
 ·obtain ⟨_, rfl, _⟩ := b7i (by unfold m3a at h; exact h)
  rfl
 ·obtain ⟨l, rfl, ⟨ds, hl, l8, ok, q⟩⟩ := b7i (by unfold m3a at h; exact h)
  have hu := hr.units
  have b0o : a2q 8 _ := hr.mono (by decide)
  have hs : sizeLine = 16777216 := sizeLine_eq
  have z1 : ¬ (8 : Int) < (ds.length : Int) := by omega
  refine ⟨_, (a0i (a6k (c0i (a7j (a1p (b9j .lst) (by rfl) T.a3k boot_isinstance (a0g (pvF 0) (a0g (c8y (v := .ty "list") (u := .type "list") (by rfl) T.b3j rfl rfl) a0j)))))
   (a0l a6h)
   a2m)
   (a0i (a6k (a2l i9q (a1p a2r (by rfl) T.b3i boot_len (a0g (pvF 0) a0j)) (b0p (v := .int 8) (by rfl) T.b6v T.i3g) (a2v _))
   (a0l a6h)
   a2m)
   (a0l (a1k (c4i (a5n (pvF 0)) (fun _ _ _ _ _ => (a0r b3k b0o (by rfl) T.c0w T.b0h.kp T.b3h .nil a0p (a0g (pvF 0) a0j))) (f5m (sc := a0h b7y) (N := ["words"]) rfl rfl (by decide +kernel)) rfl))))), ?_⟩
  walk_at "rd*"
  refine ⟨⟨_, SqL.of hl⟩, fun D H2 n2 S2 h2 => ?_⟩
  refine b7k (xs := ds.map fun d => V.str d.word) (fun i ys H' => Same H H' /\ H' D = some (.lst ys) /\ ∃ (os : List Addr) (xs : List (Dt × Int × List Rat)), ys = os.map V.ref /\ xs.map (·.1) = ds.take i /\ h0a A H' os xs) ⟨S2, h2, [], [], rfl, by rw [List.take_zero]; rfl, rfl, fun i o d e => by simp at e⟩ (by rw [List.length_map, hs]; omega) ?_ ?_ ?_
  ·intro i ys H' hi ⟨S', h', os, xs, e, ex, R⟩
   rw [List.length_map] at hi
   have xl := congrArg List.length ex
   rw [List.length_map, List.length_take] at xl
   exact ⟨h', SqL.of (S' _ _ hl), by rw [e, List.length_map, R.1]; omega⟩
  ·intro i x ys H' hx ⟨S', h', os, xs, e, ex, R⟩
   rw [List.getElem?_map] at hx
   obtain ⟨d, hd, rfl⟩ := Option.map_eq_some_iff.mp hx
   have o1 := ok d (List.mem_of_getElem? hd)
   walk_at "rd"
   refine ⟨d, o1, rfl, fun o H3 n3 S3 hp => ?_⟩
   obtain ⟨S, ss, hps⟩ := hp.pick
   refine ⟨S3 _ _ h', fun H4 B4 h4 => ⟨(S'.trans S3).step n2 B4, h4, os ++ [o], (by rw [e, List.map_append]; rfl), xs ++ [(d, S, ss)], ?_, ((R.same S3).snoc hps).d4k (Lk.lst (S3 _ _ h')) B4⟩⟩
   rw [List.take_add_one, hd, List.map_append, ex]
   rfl
  ·intro ys H3 ⟨S3, h3, os, xs, e, ex, R⟩
   rw [List.length_map, List.take_length] at ex
   subst e
   exact q D os xs H3 n2 S3 h3 ex R
theorem k5g : ∀ (ds : List (Dt × Int × List Rat)) (b : Int), g1t ds b [] = []
 | [], _ => rfl
 | d :: ds, _ => k5g ds _
theorem l8w (T : Tx K mg A) : a1s P A.wd K mg base CX0 10 A.a8u A.d2z ["self", "words"] (j8g A) := by
 have k7u : a1s P A.wd K mg base CX0 9 _ _ _ _ := m9d T
 have a1h : a1s P A.wd K mg base CX0 1 _ _ _ _ := k5d T
 have a7h : a1s P A.wd K mg base CX0 1 _ _ _ _ := i0y T
 have a6i := T.a6i
 have a2j := T.a2j
 have a1w := T.a1w
 have a2w := T.a2w
 have a1t := T.a1t
 have a2o := T.a2o
 have a1q := T.a1q
 have a2t := T.a2t
 have a1m := T.a1m
 have a1n := T.a1n
 have a1l := T.a1l
 have a0w := T.a0w
 have a0m := T.a0m
 have a2y := T.a2y
 have a1u := T.a1u
 have a1v := T.a1v
 have a3h := T.a3h
 have a1y := T.a1y
 have a1z := T.a1z
 have a2i := T.a2i
 have a0q := T.a0q
 have a0s := T.a0s
 have a1g := T.a1g
 refine T.c8m.ok i2u (fun vs H Q E h => ?_) (fun cdv A' outer s H vs Q E hr h => ?_)
 ·obtain ⟨_, _, rfl, _⟩ := c7o (by unfold j8g at h; exact h)
  rfl
 ·obtain ⟨o, l, rfl, ⟨dx, ds, ho, hl, l8, ok, q⟩⟩ := c7o (by unfold j8g at h; exact h)
  have hu := hr.units
  have j9i : a2q 9 _ := hr.mono (by decide)
  have a0t : a2q 1 _ := hr.mono (by decide)
  have a5s : a2q 1 _ := hr.mono (by decide)
  have hs : sizeLine = 16777216 := sizeLine_eq
  refine ⟨_, (a0i (b0s (pvF 0) (a0r k7u j9i (by rfl) T.k6r T.d1w.kp T.g2q .nil a0p (a0g (pvF 1) a0j)) rfl)
   (a0l (b0s (pvF 0) (c4i (a5n (a2p (pvF 0) rfl)) (fun _ _ _ _ _ => (a0o (a0n (pvF 0) T.a2w T.a9p a1h a0t T.a0z .nil a0p) (a0o (a0n (pvF 0) T.a2o T.a7k a1h a0t T.a0z .nil a0p) (a0o (a0n (pvF 0) T.a2t T.a9q a1h a0t T.a0z .nil a0p) (a0o (a0n (pvF 0) T.a2y T.a9r a1h a0t T.a0z .nil a0p) (a0o (a0n (pvF 0) T.a3h T.a9s a1h a0t T.a0z .nil a0p) (a0n (pvF 0) T.a2i T.a7l a7h a5s T.a5q .nil a0p))))))) (f5m (sc := a0h b0v) (N := ["self", "words"]) rfl rfl (by decide +kernel)) rfl) rfl))), ?_⟩
  walk_at "rd"
  refine ⟨ds, hl, l8, ok, fun pl os xs H1 np S1 hpl ex R => ?_⟩
  have ho1 := S1 _ _ ho
  walk_at "rd*"
  intro H2 B2 h2
  have no : o ≠ pl := fun e => by rw [<- e, ho] at np; cases np
  have Lo : Lk H1 o := Lk.ins ho1 (.inl rfl)
  have m3v := B2 _ _ no.symm hpl
  have R2 := R.d4k Lo B2
  clear hpl R ho ho1
  walk_at "rd*"
  refine ⟨⟨_, SqL.of m3v⟩, fun D H3 n3 S3 h3 => ?_⟩
  have ol := R2.1
  have xl : xs.length = ds.length := by rw [<- ex, List.length_map]
  refine b7k (xs := os.map V.ref) (fun i ys H' => Same H2 H' /\ H' D = some (.lst ys) /\ ∀ b, Sts H' b (xs.take i) ys []) ⟨S3, h3, fun b => ⟨rfl, fun i o d e => by simp at e⟩⟩ (by rw [List.length_map, hs]; omega) ?_ ?_ ?_
  ·intro i ys H' hi ⟨S', h', R'⟩
   rw [List.length_map] at hi
   exact ⟨h', SqL.of (S' _ _ m3v), by rw [(R' 1).1, List.length_take]; omega⟩
  ·intro i x ys H' hx ⟨S', h', R'⟩
   rw [List.getElem?_map] at hx
   obtain ⟨oi, hoi, rfl⟩ := Option.map_eq_some_iff.mp hx
   have hi := (List.getElem?_eq_some_iff.mp hoi).1
   have hd : xs[i]? = some (xs[i]'(by omega)) := List.getElem?_eq_getElem _
   have hp := (R2.2 i _ _ hoi hd).same S'
   generalize xs[i]'(by omega) = d at hd hp
   try walk_at "rd"
   refine fr6 rfl hp fun st H5 S5 hst => ⟨S5 _ _ h', fun H6 B6 h6 => ⟨(S'.trans S5).step n3 B6, h6, fun b => ?_⟩⟩
   rw [List.take_add_one, hd]
   exact (((R' b).same S5).snoc (by rw [k5g]; exact hst _)).d4k (Lk.lst (S5 _ _ h')) B6
  ·intro ys H4 ⟨S4, h4, R4⟩
   rw [List.length_map, ol, List.take_length] at R4
   have ho4 := S4 _ _ h2
   have n3e := S4 _ _ m3v
   have L4 : Lk H4 o := Lk.ins ho4 (.inr (.inl ⟨_, rfl⟩))
   have nd : o ≠ D := fun e => by rw [<- e, h2] at n3; cases n3
   have nHD : H D = none := by
    cases e : H D with
    | none => rfl
    | some u => rw [B2 _ _ nd.symm (S1 _ _ e)] at n3; cases n3
   clear h2 h3 m3v
   walk_at "rd*"
   intro H5 B5 h5
   exact q H5 xs (fun z u hz e => B5 _ _ hz (S4 _ _ (B2 _ _ hz (S1 _ _ e)))) ex ⟨pl, D, np, nHD, fun b => ⟨dx, os, ys, h5, B5 _ _ no.symm n3e, B5 _ _ nd.symm h4, (R2.same S4).d4k L4 B5, (R4 b).d4k L4 B5⟩⟩
theorem h0a.tail {A : Ad} {H : Hp} {o : Addr} {os : List Addr} {x : Dt × Int × List Rat} {ds : List (Dt × Int × List Rat)} (h : h0a A H (o :: os) (x :: ds)) : h0a A H os ds := ⟨Nat.succ.inj h.1, fun i o x e1 e2 => h.2 (i + 1) o x e1 e2⟩
theorem f0n {A : Ad} {H : Hp} : ∀ {ds : List (Dt × Int × List Rat)} {os : List Addr} {b : Int} {xs : List Int} {B : Nat}, h0a A H os ds -> (∀ x ∈ ds, x.1.ok) -> 1 <= b -> 1 <= B -> xs.length <= 1000 -> (∀ y ∈ xs, intBits y <= B) -> ∀ y ∈ g1t ds b xs, intBits y <= B + 3000 * ds.length
 | [], _, _, _, _, _, _, _, _, _, h, y, hy => Nat.le_trans (h y hy) (Nat.le_add_right _ _)
 | x :: ds, [], _, _, _, R, _, _, _, _, _, _, _ => by cases R.1
 | x :: ds, o :: os, b, xs, B, R, ok, b1, B1, xl, h, y, hy => by
  have p := R.2 0 o x rfl rfl
  have g := g0z p
  have := f0n (ds := ds) (os := os) (b := b * gn6 x) (xs := f6w x b [] xs) (B := B + 3000) R.tail (fun z hz => ok z (List.mem_cons_of_mem _ hz)) (Int.mul_pos (by omega) (show (0 : Int) < gn6 x from g)) (by omega) (by unfold f6w; rw [a4z]; exact xl) (fun z hz => by
   unfold f6w outs at hz
   obtain ⟨i, hi, rfl⟩ := List.mem_map.mp hz
   have hi' := List.mem_range.mp hi
   rw [List.nil_append, List.length_nil, Nat.zero_add]
   exact Nat.le_trans (l5q (ok x List.mem_cons_self) p b1 B1 h (by omega)) (by omega)) y hy
  rw [List.length_cons]
  omega
theorem c1h {A : Ad} {H : Hp} : ∀ {ds : List (Dt × Int × List Rat)} {os : List Addr} {b : Int} {B : Nat}, h0a A H os ds -> (∀ x ∈ ds, x.1.ok /\ Dt.few x.1) -> 1 <= b -> intBits b <= B -> intBits (g2x b ds) <= B + 600 * ds.length /\ 1 <= g2x b ds
 | [], _, _, _, _, _, b1, h => ⟨h, b1⟩
 | x :: ds, [], _, _, R, _, _, _ => by cases R.1
 | x :: ds, o :: os, b, B, R, ok, b1, h => by
  have p := R.2 0 o x rfl rfl
  have g := g0z p
  have okx := ok x List.mem_cons_self
  have := c1h (ds := ds) (os := os) (b := b * gn6 x) (B := B + 600) R.tail (fun z hz => ok z (List.mem_cons_of_mem _ hz)) (Int.mul_pos (by omega) (show (0 : Int) < gn6 x from g)) (intBits_mul_le h (c5n okx.1 okx.2 p))
  rw [List.length_cons]
  exact ⟨by have := this.1; show intBits (g2x (b * gn6 x) ds) <= _; omega, this.2⟩
theorem h0a.take {A : Ad} {H : Hp} {os : List Addr} {ds : List (Dt × Int × List Rat)} (h : h0a A H os ds) (i : Nat) : h0a A H (os.take i) (ds.take i) := ⟨by rw [List.length_take, List.length_take, h.1], fun j o x e1 e2 => by
 rw [List.getElem?_take] at e1 e2
 split at e1
 ·rename_i hj
  rw [if_pos hj] at e2
  exact h.2 j o x e1 e2
 ·cases e1⟩
theorem m3w (T : Tx K mg A) : a1s P A.wd K mg base CX0 4 A.a4r A.c1p ["self", "tops", "bottom"] (l4j A) := by
 have c9u : a1s P A.wd K mg base CX0 2 _ _ _ _ := j1f T
 have c5o : a1s P A.wd K mg base CX0 2 _ _ _ _ := i1b T
 have c9v : a1s P A.wd K mg base CX0 2 _ _ _ _ := j1g T
 have c9w : a1s P A.wd K mg base CX0 2 _ _ _ _ := j1h T
 have c9y : a1s P A.wd K mg base CX0 2 _ _ _ _ := j1i T
 have c5p : a1s P A.wd K mg base CX0 3 _ _ _ _ := i1c T
 have a4u : a1s P A.wd K mg base CX0 1 _ _ _ _ := g0v T
 have b1v : a1s P A.wd K mg base CX0 1 _ _ _ _ := g0w T
 have b1w : a1s P A.wd K mg base CX0 1 _ _ _ _ := g0x T
 have b1y : a1s P A.wd K mg base CX0 1 _ _ _ _ := g0y T
 have a9v : a1s P A.wd K mg base CX0 1 _ _ _ _ := f3z T
 have a6i := T.a6i
 have a2j := T.a2j
 have a1w := T.a1w
 have a2w := T.a2w
 have a1t := T.a1t
 have a2o := T.a2o
 have a1q := T.a1q
 have a2t := T.a2t
 have a1m := T.a1m
 have a1n := T.a1n
 have a1l := T.a1l
 have a0w := T.a0w
 have a0m := T.a0m
 have a2y := T.a2y
 have a1u := T.a1u
 have a1v := T.a1v
 have a3h := T.a3h
 have a1y := T.a1y
 have a1z := T.a1z
 have a2i := T.a2i
 have a0q := T.a0q
 have a0s := T.a0s
 have a1g := T.a1g
 refine T.b6r.ok a5h (fun vs H Q E h => ?_) (fun cdv A' outer s H vs Q E hr h => ?_)
 ·obtain ⟨_, _, _, rfl, _⟩ := f4m (by unfold l4j at h; exact h)
  rfl
 ·obtain ⟨o, l, b, rfl, ⟨pl, sl, ds, xs, ys, ⟨dx, os, sts, ho, hpl, hsl, R, ST⟩, hl, l8, ok, lx, ly, b1, bb, hb, q⟩⟩ := f4m (by unfold l4j at h; exact h)
  have hu := hr.units
  have c5q : a2q 2 _ := hr.mono (by decide)
  have c1s : a2q 2 _ := hr.mono (by decide)
  have c5r : a2q 2 _ := hr.mono (by decide)
  have c5s : a2q 2 _ := hr.mono (by decide)
  have c5t : a2q 2 _ := hr.mono (by decide)
  have c1t : a2q 3 _ := hr.mono (by decide)
  have a3v : a2q 1 _ := hr.mono (by decide)
  have a9w : a2q 1 _ := hr.mono (by decide)
  have a9y : a2q 1 _ := hr.mono (by decide)
  have a9z : a2q 1 _ := hr.mono (by decide)
  have a7n : a2q 1 _ := hr.mono (by decide)
  unfold chF at ho
  refine ⟨_, (a0i (a1j (i := 3) a5h.nd rfl (Or.inl rfl) (a8w (a0g (a2k a4w (by rfl) T.b3j boot_list (a0g (pvF 1) a0j)) (a0g (pvF 2) a0j))))
   (a0i (a1j (i := 4) a5h.nd rfl (Or.inl rfl) (c8z a0j))
   (a0i (b0r PassesOwn.never rfl (k4h (by rfl) T.j0q (a0g (a2p (pvF 0) rfl) (a0g (a2p (pvF 0) rfl) a0j))) (i2g (n := 2) rfl (c0o (a5g (i := 5) a5h.nd rfl (Or.inl rfl)) (c0o (a5g (i := 6) a5h.nd rfl (Or.inl rfl)) g9y)))
   (a0i (a1j (i := 7) a5h.nd rfl (Or.inl rfl) (a0o (a8y (pvF 5) T.a2w T.d9y c9u c5q T.b9o .nil a0p (a0g (pvF 6) (a0g (a1o a3q (pvF 3) a0k (fun _ _ => rfl)) (a0g (a1o a3q (pvF 3) a0k (fun _ _ => rfl)) a0j)))) (a0o (a8y (pvF 5) T.a2o T.d7j c5o c1s T.b6k .nil a0p (a0g (pvF 6) (a0g (a1o a3q (pvF 3) a0k (fun _ _ => rfl)) (a0g (a1o a3q (pvF 3) a0k (fun _ _ => rfl)) a0j)))) (a0o (a8y (pvF 5) T.a2t T.d9z c9v c5r T.b9q .nil a0p (a0g (pvF 6) (a0g (a1o a3q (pvF 3) a0k (fun _ _ => rfl)) (a0g (a1o a3q (pvF 3) a0k (fun _ _ => rfl)) a0j)))) (a0o (a8y (pvF 5) T.a2y T.f0g c9w c5s T.b9s .nil a0p (a0g (pvF 6) (a0g (a1o a3q (pvF 3) a0k (fun _ _ => rfl)) (a0g (a1o a3q (pvF 3) a0k (fun _ _ => rfl)) a0j)))) (a0o (a8y (pvF 5) T.a3h T.f0h c9y c5t T.b9u .nil a0p (a0g (pvF 6) (a0g (a1o a3q (pvF 3) a0k (fun _ _ => rfl)) (a0g (a1o a3q (pvF 3) a0k (fun _ _ => rfl)) a0j)))) (a8y (pvF 5) T.a2i T.d7k c5p c1t T.b6p .nil a0p (a0g (pvF 6) (a0g (a1o a3q (pvF 3) a0k (fun _ _ => rfl)) (a0g (a1o a3q (pvF 3) a0k (fun _ _ => rfl)) a0j))))))))))
   (a0i (a1j (i := 3) a5h.nd rfl (Or.inl rfl) (a8w (a0g (a1o a3q (pvF 7) a0k (fun _ _ => rfl)) (a0g (a1i a3l (a1o a3q (pvF 3) a0k (fun _ _ => rfl)) (a0o (a0n (pvF 5) T.a2w T.c2r b1v a9w T.b4w .nil a0p) (a0o (a0n (pvF 5) T.a2o T.b9v a4u a3v T.a5r .nil a0p) (a0o (a0n (pvF 5) T.a2t T.c2s b1w a9y T.b4y .nil a0p) (a0o (a0n (pvF 5) T.a2y T.c2t b1y a9z T.b4z .nil a0p) (a0o (a0n (pvF 5) T.a3h T.c2u a4u a3v T.a5r .nil a0p) (a0n (pvF 5) T.a2i T.b9w a9v a7n T.b2u .nil a0p))))))) a0j))))
   (a0l (b0q (b5q b5p PySem.F.plainAttrs_list PySem.F.slot_list_append PySem.F.type_list_append b1z (pvF 4) (a0g (a1o a3q (pvF 7) a0k (fun _ _ => rfl)) a0j)))))))
   (a0i (b0s (pvF 0) (pvF 4) rfl)
   (a0l (a1k (pvF 3))))))), ?_⟩
  walk_at "rd*"
  refine fun l1 H1 n1 S1 h1 => ?_
  walk_at "rd"
  refine fun r2 H2 n2 S2 h2 => ?_
  walk_at "rd"
  refine ⟨by decide, fun D H3 n3 S3 h3 => ?_⟩
  have S02 := S1.trans S2
  have S03 := S02.trans S3
  have ho3 := S03 _ _ ho
  have n4x := S03 _ _ hpl
  have n4y := S03 _ _ hsl
  walk_at "rd*"
  have ol := R.1
  have sl' := ST.1
  have nl : l1 ≠ D := fun e => by rw [<- e, S2 _ _ h1] at n3; cases n3
  have h13 := S3 _ _ (S2 _ _ h1)
  have h23 := S3 _ _ h2
  obtain ⟨Pv, pin, pout⟩ := f5n (fun i σ H' => ∃ (rr lo : Addr) (sts' : List V) (v5 v6 v7 : Option V), σ = [some (.ref o), some (.ref l), some (.int b), some (.ref rr), some (.ref D), v5, v6, v7] /\ Same H2 H' /\ H' rr = some (.tup [.ref lo, .int (g2x b (ds.take i))]) /\ H' lo = some (.lst ((l6n (ds.take i) b xs ys).map V.int)) /\ lo ≠ D /\ H rr = none /\ H lo = none /\ H' D = some (.lst sts') /\ Sts H' b (ds.take i) sts' (xs ++ ys))
  refine i2j (xs := os.map V.ref) (ys := sts) Pv (pin _ _ _ ⟨_, _, [], _, _, _, rfl, S3, h23, h13, nl, S1.free n2, n1, h3, rfl, fun i o d e => by simp at e⟩) ?_ ?_ ?_
  ·intro i σ H4 hp
   obtain ⟨rr, lo, sts', v5, v6, v7, rfl, S4, _⟩ := pout _ _ _ hp
   exact ⟨SqL.of (S4 _ _ (S02 _ _ hpl)), SqL.of (S4 _ _ (S02 _ _ hsl))⟩
  ·intro i x y σ H4 p H5 hx hy hp np S5 h5
   obtain ⟨rr, lo, sts', v5, v6, v7, rfl, S4, hrr, hlo, nlo, fr, fl, hD, R4⟩ := pout _ _ _ hp
   rw [List.getElem?_map] at hx
   obtain ⟨oi, hoi, rfl⟩ := Option.map_eq_some_iff.mp hx
   have hi := (List.getElem?_eq_some_iff.mp hoi).1
   have hd : ds[i]? = some (ds[i]'(by omega)) := List.getElem?_eq_getElem _
   have hp := R.2 i _ _ hoi hd
   have hst := ST.2 i _ _ hy hd
   have okd := ok _ (List.mem_of_getElem? hd)
   have et : ds.take (i + 1) = ds.take i ++ [ds[i]'(by omega)] := by rw [List.take_add_one, hd]; rfl
   generalize ds[i]'(by omega) = d at hd hp hst okd et
   have S05 := S02.trans (S4.trans S5)
   have n4z := S5 _ _ hrr
   have hlo5 := S5 _ _ hlo
   have hp5 := hp.same S05
   have m9e := hst.same S05
   clear hp hst hrr hlo h13 h23 h2 h1 ho3 n4x n4y
   have tl : (ds.take i).length <= 8 := by rw [List.length_take]; omega
   have bt : ∀ z ∈ g1t (ds.take i) b xs ++ l6n (ds.take i) b xs ys, intBits z <= 100000 := by
    rw [<- h0d]
    intro z hz
    have h1 := f0n (R.take i) (xs := xs ++ ys) (B := 64) (fun d hd => (ok d (List.mem_of_mem_take hd)).1) b1 (by decide) (by rw [List.length_append]; omega) hb z hz
    omega
   obtain ⟨gb, g1⟩ := c1h (R.take i) (fun d hd => ok d (List.mem_of_mem_take hd)) b1 bb
   walk_at "rd*"
   refine n4w (by rfl) hp5 ?_
   walk_at "rd*"
   refine ⟨d.1, rfl, d.2.1, d.2.2, hp5, okd.1, _, m9e, _, rfl, by rw [f4g]; omega, by rw [i4c]; omega, by omega, bt, fun r ou st' H6 S6 nr no h6 ho6 hst6 => ?_⟩
   have hrr6 := S6 _ _ n4z
   have hp6 := hp5.same S6
   have nou : ou ≠ D := fun e => by rw [e, S5 _ _ hD] at no; cases no
   clear n4z hlo5 hp5 m9e bt
   walk_at "rd*"
   refine gr6 (by rfl) hp6 ?_
   walk_at "rd*"
   refine ⟨IntMulOk.of_le gb (c5n okd.1 okd.2 hp6) (by omega), fun r7 H7 n7 S7 h7 => ?_⟩
   have h67 := S7 _ _ h6
   have hD7 := S7 _ _ (S6 _ _ (S5 _ _ hD))
   have R7 := ((R4.same S5).same S6).same S7
   clear h6 hrr6 hp6
   have sl7 := R7.1
   walk_at "rd*"
   refine ⟨by rw [sizeLine_eq]; omega, ?_⟩
   rintro _ H8 ⟨rfl, B8, h8⟩
   have nr7 : r7 ≠ D := fun e => by rw [e, S6 _ _ (S5 _ _ hD)] at n7; cases n7
   refine pin _ _ _ ⟨r7, ou, sts' ++ [st'], _, _, _, rfl, (S4.trans (S5.trans (S6.trans S7))).step n3 B8, ?_, ?_, nou, (S05.trans S6).free n7, S05.free no, h8, ?_⟩
   ·rw [et, g1a]
    exact B8 _ _ nr7 h7
   ·rw [et, j1q]
    exact B8 _ _ nou (S7 _ _ ho6)
   ·rw [et]
    refine (R7.snoc ?_).d4k (Lk.lst hD7) B8
    rw [h0d]
    exact hst6.same S7
  ·intro σ H4 hp
   obtain ⟨rr, lo, sts', v5, v6, v7, rfl, S4, hrr, hlo, nlo, fr, fl, hD, R4⟩ := pout _ _ _ hp
   rw [List.length_map, ol, sl', Nat.min_self, List.take_length] at R4 hrr hlo
   have S04 := S02.trans S4
   have ho4 := S04 _ _ ho
   have n3e := S04 _ _ hpl
   have L4 : Lk H4 o := Lk.ins ho4 (.inr (.inr ⟨_, _, rfl⟩))
   have nD : D ≠ o := fun e => by rw [e, S02 _ _ ho] at n3; cases n3
   have npl : pl ≠ o := fun e => by rw [e, ho] at hpl; cases hpl
   have nrr : rr ≠ o := fun e => by rw [e, ho] at fr; cases fr
   have nlo2 : lo ≠ o := fun e => by rw [e, ho] at fl; cases fl
   clear ho3 n4x n4y h13 h23 h1 h2 h3
   walk_at "rd*"
   intro H5 B5 h5
   try walk_at "rd*"
   exact q rr lo D H5 (fun z u hz e => B5 _ _ hz (S04 _ _ e)) fr fl (S02.free n3) nlo.symm (B5 _ _ nrr hrr) (B5 _ _ nlo2 hlo) ⟨dx, os, sts', h5, B5 _ _ npl n3e, B5 _ _ nD hD, (R.same S04).d4k L4 B5, R4.d4k L4 B5⟩
theorem l5s {K : PySem.W.Frag} {a D : Addr} {xs : List V} {te : TE} {σ : L2.St} {H0 H : Hp} {Q : VK} (zs : List V) (hz : zs.length = xs.length) (n0 : H0 D = none) (S : Same H0 H) (hD : H D = some (.lst [])) (hS : SqL K H0 a xs) (hsz : xs.length <= sizeLine)
  (hs : ∀ (i : Nat) x z H' (Q' : VK), xs[i]? = some x -> zs[i]? = some z -> Same H0 H' -> (∀ H2, Same H' H2 -> Q' z H2) -> te (some x :: σ) H' Q') (q : ∀ H', Same H0 H' -> H' D = some (.lst zs) -> Q (.ref D) H') : h6g (Itl K a) te D σ H Q ⟨⟩ := by
 refine b7k (fun i ys H' => Same H0 H' /\ H' D = some (.lst ys) /\ ys = zs.take i) ⟨S, hD, by simp⟩ hsz (fun i ys H' hi p => ?_) (fun i x ys H' hx p => ?_) (fun ys H' p => ?_)
 ·refine ⟨p.2.1, p.1.seq hS, ?_⟩
  rw [p.2.2, List.length_take]
  omega
 ·have hi : i < zs.length := by rw [hz]; exact (List.getElem?_eq_some_iff.mp hx).1
  have hzi : zs[i]? = some zs[i] := List.getElem?_eq_getElem hi
  refine hs i x _ H' _ hx hzi p.1 fun H2 S2 => ⟨S2 _ _ p.2.1, fun H3 s3 h3 => ⟨(p.1.trans S2).step n0 s3, h3, ?_⟩⟩
  rw [p.2.2, List.take_add_one, hzi]
  rfl
 ·refine q H' p.1 ?_
  rw [p.2.1, p.2.2, <- hz, List.take_length]
theorem m9f (T : Tx K mg A) : a1s P A.wd K mg base CX0 2 A.a6v A.c9o ["self"] (m3b A) := by
 have a4u : a1s P A.wd K mg base CX0 1 _ _ _ _ := g0v T
 have b1v : a1s P A.wd K mg base CX0 1 _ _ _ _ := g0w T
 have b1w : a1s P A.wd K mg base CX0 1 _ _ _ _ := g0x T
 have b1y : a1s P A.wd K mg base CX0 1 _ _ _ _ := g0y T
 have a9v : a1s P A.wd K mg base CX0 1 _ _ _ _ := f3z T
 have a6i := T.a6i
 have a2j := T.a2j
 have a1w := T.a1w
 have a2w := T.a2w
 have a1t := T.a1t
 have a2o := T.a2o
 have a1q := T.a1q
 have a2t := T.a2t
 have a1m := T.a1m
 have a1n := T.a1n
 have a1l := T.a1l
 have a0w := T.a0w
 have a0m := T.a0m
 have a2y := T.a2y
 have a1u := T.a1u
 have a1v := T.a1v
 have a3h := T.a3h
 have a1y := T.a1y
 have a1z := T.a1z
 have a2i := T.a2i
 have a0q := T.a0q
 have a0s := T.a0s
 have a1g := T.a1g
 refine T.c2n.ok b9l (fun vs H Q E h => ?_) (fun cdv A' outer s H vs Q E hr h => ?_)
 ·obtain ⟨_, rfl, _⟩ := b7i (by unfold m3b at h; exact h)
  rfl
 ·obtain ⟨o, rfl, ⟨pl, sl, b, ds, xs, ⟨dx, os, sts, ho, hpl, hsl, R, ST⟩, l8, ok, q⟩⟩ := b7i (by unfold m3b at h; exact h)
  have hu := hr.units
  have a3v : a2q 1 _ := hr.mono (by decide)
  have a9w : a2q 1 _ := hr.mono (by decide)
  have a9y : a2q 1 _ := hr.mono (by decide)
  have a9z : a2q 1 _ := hr.mono (by decide)
  have a7n : a2q 1 _ := hr.mono (by decide)
  have ol := R.1
  unfold chF at ho
  refine ⟨_, (a0i (a1j (i := 1) b9l.nd rfl (Or.inl rfl) a0k)
   (a0i (b0r PassesOwn.never rfl (a5n (a2p (pvF 0) rfl)) (a5g (i := 2) b9l.nd rfl (Or.inl rfl))
   (a0l (a1j (i := 1) b9l.nd rfl (Or.inl rfl) (a1i a3l (pvF 1) (a0o (a0n (pvF 2) T.a2w T.c2r b1v a9w T.b4w .nil a0p) (a0o (a0n (pvF 2) T.a2o T.b9v a4u a3v T.a5r .nil a0p) (a0o (a0n (pvF 2) T.a2t T.c2s b1w a9y T.b4y .nil a0p) (a0o (a0n (pvF 2) T.a2y T.c2t b1y a9z T.b4z .nil a0p) (a0o (a0n (pvF 2) T.a3h T.c2u a4u a3v T.a5r .nil a0p) (a0n (pvF 2) T.a2i T.b9w a9v a7n T.b2u .nil a0p))))))))))
   (a0l (a1k (pvF 1))))), ?_⟩
  walk_at "rd*"
  refine ⟨⟨_, SqL.of hpl⟩, ?_⟩
  obtain ⟨Pv, pin, pout⟩ := f5n (fun i σ H' => ∃ v2 : Option V, σ = [some (.ref o), some (.int (g2x 1 (ds.take i))), v2] /\ H = H')
  refine b5n (xs := os.map V.ref) Pv (pin _ _ _ ⟨_, rfl, rfl⟩) ?_ ?_ ?_
  ·intro i σ H2 hi hp
   obtain ⟨v2, rfl, rfl⟩ := pout _ _ _ hp
   exact SqL.of hpl
  ·intro i v σ H2 hv hp
   obtain ⟨v2, rfl, rfl⟩ := pout _ _ _ hp
   rw [List.getElem?_map] at hv
   obtain ⟨oi, hoi, rfl⟩ := Option.map_eq_some_iff.mp hv
   have hi := (List.getElem?_eq_some_iff.mp hoi).1
   have hd : ds[i]? = some (ds[i]'(by omega)) := List.getElem?_eq_getElem _
   have hpi := R.2 i _ _ hoi hd
   have okd := ok _ (List.mem_of_getElem? hd)
   have et : ds.take (i + 1) = ds.take i ++ [ds[i]'(by omega)] := by rw [List.take_add_one, hd]; rfl
   generalize ds[i]'(by omega) = d at hd hpi okd et
   obtain ⟨gb, g1⟩ := c1h (R.take i) (b := 1) (B := 64) (fun d hd => ok d (List.mem_of_mem_take hd)) (by decide) (by decide)
   have tl : (ds.take i).length <= 8 := by rw [List.length_take]; omega
   clear hv hp hpl ho
   walk_at "rd*"
   refine gr6 (by rfl) hpi ?_
   walk_at "rd*"
   refine ⟨IntMulOk.of_le gb (c5n okd.1 okd.2 hpi) (by omega), pin _ _ _ ⟨some (.ref oi), by rw [et, g1a]; rfl, rfl⟩⟩
  ·intro σ H2 hp
   obtain ⟨v2, rfl, rfl⟩ := pout _ _ _ hp
   rw [List.length_map, ol, List.take_length]
   walk_at "rd"
   exact q
theorem m9g (T : Tx K mg A) : a1s P A.wd K mg base CX0 4 A.a6w A.c9p ["self"] (m3c A) := by
 have j9j : a1s P A.wd K mg base CX0 2 _ _ _ _ := n2y T
 have j1s : a1s P A.wd K mg base CX0 1 _ _ _ _ := n2z T
 have j9k : a1s P A.wd K mg base CX0 2 _ _ _ _ := n3a T
 have j9l : a1s P A.wd K mg base CX0 2 _ _ _ _ := n3b T
 have j9m : a1s P A.wd K mg base CX0 2 _ _ _ _ := n3c T
 have j1t : a1s P A.wd K mg base CX0 3 _ _ _ _ := n3d T
 have a6i := T.a6i
 have a2j := T.a2j
 have a1w := T.a1w
 have a2w := T.a2w
 have a1t := T.a1t
 have a2o := T.a2o
 have a1q := T.a1q
 have a2t := T.a2t
 have a1m := T.a1m
 have a1n := T.a1n
 have a1l := T.a1l
 have a0w := T.a0w
 have a0m := T.a0m
 have a2y := T.a2y
 have a1u := T.a1u
 have a1v := T.a1v
 have a3h := T.a3h
 have a1y := T.a1y
 have a1z := T.a1z
 have a2i := T.a2i
 have a0q := T.a0q
 have a0s := T.a0s
 have a1g := T.a1g
 refine T.c2o.ok h6m (fun vs H Q E h => ?_) (fun cdv A' outer s H vs Q E hr h => ?_)
 ·obtain ⟨_, rfl, _⟩ := b7i (by unfold m3c at h; exact h)
  rfl
 ·obtain ⟨o, rfl, ⟨pl, sl, b, ds, xs, ⟨dx, os, sts, ho, hpl, hsl, R, ST⟩, l8, ok, q⟩⟩ := b7i (by unfold m3c at h; exact h)
  have hu := hr.units
  have j1u : a2q 2 _ := hr.mono (by decide)
  have i4d : a2q 1 _ := hr.mono (by decide)
  have j1v : a2q 2 _ := hr.mono (by decide)
  have j1w : a2q 2 _ := hr.mono (by decide)
  have j1x : a2q 2 _ := hr.mono (by decide)
  have i4e : a2q 3 _ := hr.mono (by decide)
  have hs : sizeLine = 16777216 := sizeLine_eq
  have ol := R.1
  unfold chF at ho
  refine ⟨_, (a0l (a1k (c4i (a5n (a2p (pvF 0) rfl)) (fun _ _ _ _ _ => (a0o (a0n (pvF 0) T.a2w T.j0r j9j j1u T.f6l .nil a0p) (a0o (a0n (pvF 0) T.a2o T.i3c j1s i4d T.d9n .nil a0p) (a0o (a0n (pvF 0) T.a2t T.j0s j9k j1v T.f6n .nil a0p) (a0o (a0n (pvF 0) T.a2y T.j0t j9l j1w T.f6p .nil a0p) (a0o (a0n (pvF 0) T.a3h T.j0u j9m j1x T.f6r .nil a0p) (a0n (pvF 0) T.a2i T.i3e j1t i4e T.d9q .nil a0p))))))) (f5m (sc := a0h a8z) (N := ["self"]) rfl rfl (by decide +kernel)) rfl))), ?_⟩
  walk_at "rd*"
  refine ⟨⟨_, SqL.of hpl⟩, fun D H2 n2 S2 h2 => ?_⟩
  refine l5s ((ds.map (·.1)).map fun d => V.str d.word) (by rw [List.length_map, List.length_map, List.length_map, ol]) n2 S2 h2 (SqL.of hpl) (by rw [List.length_map, hs]; omega) ?_ ?_
  ·intro i x z H' Q' hx hz S' q'
   rw [List.getElem?_map] at hx
   rw [List.map_map, List.getElem?_map] at hz
   obtain ⟨oi, hoi, rfl⟩ := Option.map_eq_some_iff.mp hx
   obtain ⟨d, hd, rfl⟩ := Option.map_eq_some_iff.mp hz
   have hp := ((R.2 i _ _ hoi hd).same S').isP
   have okd := (ok d (List.mem_of_getElem? hd)).1
   have hi := (List.getElem?_eq_some_iff.mp hoi).1
   obtain ⟨d, S, ss⟩ := d
   try walk_at "rd"
   refine n2w rfl hp (by decide +kernel) ?_
   cases d <;> exact ⟨_, rfl, hp, okd, q'⟩
  ·intro H3 S3 h3
   exact q _ _ ⟨D, rfl, n2, S3, h3⟩
theorem j1y {t b g : Int} (hg : 0 < g) (h1 : g ∣ t) (h2 : g ∣ b) (h : (t.natAbs : Int) < b) : ((t.fdiv g).natAbs : Int) < b.fdiv g := by
 obtain ⟨x, rfl⟩ := h1
 obtain ⟨y, rfl⟩ := h2
 rw [Int.mul_fdiv_cancel_left _ (by omega), Int.mul_fdiv_cancel_left _ (by omega)]
 rw [Int.natAbs_mul] at h
 have e : ((g.natAbs * x.natAbs : Nat) : Int) = g * (x.natAbs : Int) := by rw [Int.natCast_mul]; congr 1; omega
 rw [e] at h
 exact Int.lt_of_mul_lt_mul_left h (by omega)
theorem h2r {a g : Int} (ha : 0 < a) (hg : 0 < g) (h : g ∣ a) : 0 < a.fdiv g := by
 obtain ⟨z, rfl⟩ := h
 rw [Int.mul_fdiv_cancel_left _ (by omega)]
 rcases Int.lt_or_le 0 z with h | h
 ·exact h
 ·exfalso
  have := Int.mul_nonpos_of_nonneg_of_nonpos (a := g) (by omega) h
  omega
theorem j1z {t b : Int} (t1 : t.natAbs <= 1000) (b1 : 1 <= b) (b2 : b <= 1000) : 0 < Int.gcd (t.natAbs : Int) b /\ CFd t (Int.gcd (t.natAbs : Int) b : Int) /\ CFd b (Int.gcd (t.natAbs : Int) b : Int) /\
  ∃ y : Rat, YOk y /\ y.num = t.fdiv (Int.gcd (t.natAbs : Int) b : Int) /\ (y.den : Int) = b.fdiv (Int.gcd (t.natAbs : Int) b : Int) /\ ((t.natAbs : Int) < b -> (y.num.natAbs : Int) < y.den) := by
 have gp : 0 < Int.gcd (t.natAbs : Int) b := Int.gcd_pos_of_ne_zero_right _ (by omega)
 have gl : (Int.gcd (t.natAbs : Int) b : Int) <= b := Int.le_of_dvd (by omega) (Int.gcd_dvd_right _ _)
 have gd : (Int.gcd (t.natAbs : Int) b : Int) ∣ t := by
  have := Int.gcd_dvd_left (t.natAbs : Int) b
  exact Int.dvd_natAbs.mp this
 have gd2 : (Int.gcd (t.natAbs : Int) b : Int) ∣ b := Int.gcd_dvd_right _ _
 have ge : Int.gcd (t.natAbs : Int) b = Int.gcd t b := by
  have := h2c t b
  rw [<- this, show ((b.natAbs : Nat) : Int) = b by omega]
 have cf : CFd t (Int.gcd (t.natAbs : Int) b : Int) := ⟨by omega, Nat.le_trans (intBits_le_64 (by omega) (by omega)) (by decide)⟩
 have q1 := d4g (a := t) (g := (Int.gcd (t.natAbs : Int) b : Int)) (by omega) gd
 have q2 := d4g (a := b) (g := (Int.gcd (t.natAbs : Int) b : Int)) (by omega) gd2
 have q3 : 0 < b.fdiv (Int.gcd (t.natAbs : Int) b : Int) := h2r (by omega) (by omega) gd2
 have q4 : Int.gcd (t.fdiv (Int.gcd (t.natAbs : Int) b : Int)) (b.fdiv (Int.gcd (t.natAbs : Int) b : Int)) = 1 := by
  rw [ge]
  have := l8g (a := t) (b := b) (by omega)
  omega
 have d1 : t.natAbs / (Int.gcd (t.natAbs : Int) b : Int).natAbs <= t.natAbs := Nat.div_le_self _ _
 have d2 : b.natAbs / (Int.gcd (t.natAbs : Int) b : Int).natAbs <= b.natAbs := Nat.div_le_self _ _
 obtain ⟨y, y1, y2⟩ := m0v (by omega : 1 <= b.fdiv (Int.gcd (t.natAbs : Int) b : Int)) q4
 refine ⟨gp, cf, ⟨cf.1, cf.2⟩, y, ⟨by rw [y1]; omega, by omega⟩, y1, y2, fun z => ?_⟩
 rw [y1, y2]
 exact j1y (by omega) gd gd2 z
theorem m3x (T : Tx K mg A) : a1s P A.wd K mg base CX0 1 A.a9k A.c9q ["_law_script", "_law_k"] (l4k K) := by
 refine T.a9o.ok h6n (fun vs H Q E h => ?_) (fun cdv A' outer s H vs Q E hr h => ?_)
 ·obtain ⟨_, _, rfl, _⟩ := f4i (by unfold l4k at h; exact h)
  rfl
 ·obtain ⟨a, k, rfl, ⟨ns, hS, hk, q⟩⟩ := f4i (by unfold l4k at h; exact h)
  have hu := hr.units
  refine ⟨_, (a0i (a6k (a2l of_lt (pvF 1) (a1p k5w (by rfl) T.b3i boot_len (a0g (pvF 0) a0j)) (a2v _))
   (a0l (a1k (a1o ix_S (pvF 0) (pvF 1) (fun _ _ => rfl))))
   a2m)
   (a0l (a1k a0k))), ?_⟩
  walk_at "rd"
  refine ⟨_, hS, ?_⟩
  rw [List.length_map]
  split
  ·rename_i h
   exact ⟨_, hS, hk, h, q⟩
  ·rename_i h
   obtain ⟨j, rfl⟩ := Int.eq_ofNat_of_zero_le hk
   rw [List.getD_eq_getElem?_getD, List.getElem?_eq_none (by omega)] at q
   exact q
theorem k5h (T : Tx K mg A) : a1s P A.wd K mg base CX0 1 A.b3z A.d9i ["_law_found"] j8h := by
 refine T.b4j.ok j0k (fun vs H Q E h => ?_) (fun cdv A' outer s H vs Q E hr h => ?_)
 ·obtain ⟨_, rfl, _⟩ := m5d (by unfold j8h at h; exact h)
  rfl
 ·obtain ⟨i, rfl, q⟩ := m5d (by unfold j8h at h; exact h)
  have hu := hr.units
  refine ⟨_, (a0l (a1k (h0t (a1p (b9j .int) (by rfl) T.a3k boot_isinstance (a0g (pvF 0) (a0g (c8y (v := .ty "int") (u := .type "int") (by rfl) T.h6o rfl rfl) a0j))) (k3x (l2l (a1p (b9j .bl) (by rfl) T.a3k boot_isinstance (a0g (pvF 0) (a0g (c8y (v := .ty "bool") (u := .type "bool") (by rfl) T.i0s rfl rfl) a0j)))))))), ?_⟩
  walk_at "rd"
  exact q
theorem h2t (T : Tx K mg A) : a1s P A.wd K mg base CX0 1 A.a9l A.c9r ["_law_one", "_law_other"] j7x := by
 refine T.b2y.ok b0n (fun vs H Q E h => ?_) (fun cdv A' outer s H vs Q E hr h => ?_)
 ·obtain ⟨_, _, rfl, _⟩ := g6p (by unfold j7x at h; exact h)
  rfl
 ·obtain ⟨a, b, rfl, q⟩ := g6p (by unfold j7x at h; exact h)
  have q : Q (.int (Int.gcd a b)) H := q
  have hu := hr.units
  refine ⟨_, (a0i (a1j (i := 0) b0n.nd rfl (Or.inl rfl) (a1p c0k (by rfl) T.g6r boot_abs (a0g (pvF 0) a0j)))
   (a0i (a1j (i := 1) b0n.nd rfl (Or.inl rfl) (a1p c0k (by rfl) T.g6r boot_abs (a0g (pvF 1) a0j)))
   (a0i (h0q PassesOwn.never (a2l i9q (pvF 1) a0k (a2v _))
   (a0i (a1j (i := 2) b0n.nd rfl (Or.inl rfl) (a1i a7o (pvF 0) (pvF 1)))
   (a0i (a1j (i := 0) b0n.nd rfl (Or.inl rfl) (pvF 1))
   (a0l (a1j (i := 1) b0n.nd rfl (Or.inl rfl) (pvF 2))))))
   (a0l (a1k (pvF 0)))))), ?_⟩
  walk_at "rd"
  refine h0r (fun m σ H1 => ∃ l r z, σ = [some (.int l), some (.int r), z] /\ H1 = H /\ 0 <= l /\ 0 <= r /\ m = r.toNat /\ Int.gcd l r = Int.gcd a b) _
   ⟨_, _, _, rfl, rfl, by omega, by omega, rfl, h2c a b⟩ ?_
  rintro m σ H1 ⟨l, r, z, rfl, rfl, hl, hr', rfl, hg⟩
  walk_at "rd"
  split
  ·rename_i h
   have hp : 0 < r := by omega
   have f := l4m hl hp
   exact ⟨by omega, _, (by omega : (l.fmod r).toNat < r.toNat), _, _, _, ⟨rfl, rfl, rfl⟩, hr', f.1, rfl, (k4r hl hp).trans hg⟩
  ·rename_i h
   obtain rfl : r = 0 := by omega
   rw [<- hg, gcd_zero hl] at q
   exact q
theorem d4l (x : Str) : Str.empty ++ x = x := c7r (by rw [a3z]; rfl)
theorem m9h (y : Rat) : Str.ofString "gain:" ++ fW y = (Dt.gain y).word := by rw [← l3e, d4l]
theorem m3y (n : Nat) : Str.ofString "delay:" ++ nW n = (Dt.delay n).word := by rw [← j7j, d4l]
theorem m9i (y : Rat) (n t : Nat) : Str.ofString "echo:" ++ fW y ++ Str.ofString ":" ++ nW n ++ Str.ofString ":" ++ nW t = (Dt.echo y n t).word := by rw [← l3f, d4l]
theorem m3z (cs : List (Int × Rat)) : Str.ofString "swell:" ++ Txt.join (Str.ofString ",") (cs.map cW) = (Dt.swell cs).word := by rw [← j7k, d4l]
theorem l8x (c : Int × Rat) : Str.ofString (toString c.1) ++ Str.ofString "=" ++ fW c.2 = cW c := by unfold cW; rw [d4l]
theorem l8y (c : Int) : -1000000000000 <= l6o c /\ l6o c <= 1000000000000 := by
 unfold l6o
 split
 ·omega
 ·have := b5k (c * 618033988749894848204587) (b := 2000000000001) (by decide)
  omega
theorem l8z (T : Tx K mg A) : a1s P A.wd K mg base CX0 1 A.b8r A.f6h ["_law_cell"] j8i := by
 refine T.d1z.ok j7r (fun vs H Q E h => ?_) (fun cdv A' outer s H vs Q E hr h => ?_)
 ·obtain ⟨_, rfl, _⟩ := m5d (by unfold j8i at h; exact h)
  rfl
 ·obtain ⟨c, rfl, ⟨hc, q⟩⟩ := m5d (by unfold j8i at h; exact h)
  have hu := hr.units
  refine ⟨_, (a0i (a6k (a2l (c4h hu) (a1i a7o (a1i a7o (a1i a3l (pvF 0) a0k) a0k) a0k) a0k (a2v _))
   (a0l (a1k a0k))
   a2m)
   (a0l (a1k (a1i d0t (a1i a7o (a1i a3l (pvF 0) a0k) (a1i a2g (a1i a3l a0k (a1i f9z a0k a0k)) a0k)) (a1i f9z a0k a0k))))), ?_⟩
  walk_at "rd"
  unfold l6o at q
  refine ⟨by walk_at "mul", ?_⟩
  split
  ·rename_i h
   rw [if_pos h] at q
   exact q
  ·rename_i h
   rw [if_neg h] at q
   refine ⟨by walk_at "mul", by decide, by walk_at "mul", by decide, q⟩
theorem k5i (T : Tx K mg A) : a1s P A.wd K mg base CX0 2 A.b8p A.f5z ["_law_mixed", "_law_great"] j8j := by
 have d4m : a1s P A.wd K mg base CX0 1 _ _ _ _ := h2t T
 refine T.b5g.ok b8h (fun vs H Q E h => ?_) (fun cdv A' outer s H vs Q E hr h => ?_)
 ·obtain ⟨_, _, rfl, _⟩ := j0d (by unfold j8j at h; exact h)
  rfl
 ·obtain ⟨M, g, rfl, k⟩ := j0d (by unfold j8j at h; exact h)
  have hu := hr.units
  have c9z : a2q 1 _ := hr.mono (by decide)
  have hs : sizeLine = 16777216 := sizeLine_eq
  refine ⟨_, (a0i (a1j (i := 2) b8h.nd rfl (Or.inl rfl) (a1i d0t (a1i a7o (pvF 0) a0k) a0k))
   (a0i (a1j (i := 3) b8h.nd rfl (Or.inl rfl) (a1i a2g a0k (a1i a7o (a1i a4n (pvF 0) a0k) a0k)))
   (b5o (a6k (a7j (pvF 1))
   (a0i (a1j (i := 2) b8h.nd rfl (Or.inl rfl) (a1i d0t (a1i a7o (pvF 0) a0k) a0k))
   (a0l (a1j (i := 3) b8h.nd rfl (Or.inl rfl) (a1i a2g a0k (a1i a7o (a1i a4n (pvF 0) a0k) a0k)))))
   a2m)
   (a0i (a1j (i := 4) b8h.nd rfl (Or.inl rfl) (a0r d4m c9z (by rfl) T.g0p T.b2y.kp T.c2q .nil a0p (a0g (pvF 2) (a0g (pvF 3) a0j))))
   (a0l (a1k (a1i a2g (a1i a2g (a2k b3g (by rfl) T.f4j boot_str (a0g (a1i a4n (pvF 2) (pvF 4)) a0j)) a3w) (a2k b3g (by rfl) T.f4j boot_str (a0g (a1i a4n (pvF 3) (pvF 4)) a0j))))))))), ?_⟩
  have f1 := b5k M (b := 2001) (by decide)
  have f2 := b5k (M.fdiv 2001) (b := 1000) (by decide)
  have f3 := b5k M (b := 9) (by decide)
  have f4 := b5k (M.fdiv 9) (b := 4) (by decide)
  walk_at "rd"
  obtain ⟨Mid, pin, pout⟩ := l1f (fun σ' H1 => ∃ t b : Int, σ' = [some (.int M), some (.bl g), some (.int t), some (.int b), none] /\ H1 = H /\ t.natAbs <= 1000 /\ 1 <= b /\ b <= 1000)
  refine ⟨⟨by decide, by decide⟩, Mid, ?_, ?_⟩
  ·walk_at "rd"
   split
   ·exact ⟨⟨by decide, by decide⟩, pin _ _ ⟨_, _, rfl, rfl, by omega, by omega, by omega⟩⟩
   ·exact pin _ _ ⟨_, _, rfl, rfl, by omega, by omega, by omega⟩
  intro σ' H1 hm2
  obtain ⟨t, b, rfl, rfl, t1, b1, b2⟩ := pout _ _ hm2
  obtain ⟨gp, cf1, cf2, y, oy, y1, y2, yl⟩ := j1z t1 b1 b2
  have ge : Int.gcd (t.natAbs : Int) b = Int.gcd t b := by
   have := h2c t b
   rw [<- this, show ((b.natAbs : Nat) : Int) = b by omega]
  rw [ge] at cf1 cf2 y1 y2
  have q := k y oy
  have g1 := c0p (intBits_le_iff.mp oy.b.1) (by decide)
  have g2 := c0p (intBits_le_iff.mp oy.b.2) (by decide)
  have a := c1i (intBits_le_iff.mp oy.b.1) (by decide)
  have c := c1i (intBits_le_iff.mp oy.b.2) (by decide)
  have e1 : (Str.ofString "/").length = 1 := by decide +kernel
  unfold fW at q
  rw [d4l] at q
  rw [y1] at q a g1
  rw [y2] at q c g2
  walk_at "rd"
  refine ⟨cf1, by omega, by omega, cf2, by omega, by rw [strLen_append]; omega, q⟩
theorem l9a (T : Tx K mg A) : a1s P A.wd K mg base CX0 2 A.b1o A.d3g ["_law_mixed", "_law_great"] j8k := by
 have d4m : a1s P A.wd K mg base CX0 1 _ _ _ _ := h2t T
 refine T.c0y.ok b5t (fun vs H Q E h => ?_) (fun cdv A' outer s H vs Q E hr h => ?_)
 ·obtain ⟨_, _, rfl, _⟩ := j0d (by unfold j8k at h; exact h)
  rfl
 ·obtain ⟨M, g, rfl, k⟩ := j0d (by unfold j8k at h; exact h)
  have hu := hr.units
  have c9z : a2q 1 _ := hr.mono (by decide)
  have hs : sizeLine = 16777216 := sizeLine_eq
  refine ⟨_, (a0i (a1j (i := 2) b5t.nd rfl (Or.inl rfl) (a1i a2g a0k (a1i a7o (a1i a4n (pvF 0) a0k) a0k)))
   (b5o (a6k (a7j (pvF 1))
   (a0l (a1j (i := 2) b5t.nd rfl (Or.inl rfl) (a1i a2g a0k (a1i a7o (a1i a4n (pvF 0) a0k) a0k))))
   a2m)
   (b5o (a1j (i := 3) b5t.nd rfl (Or.inl rfl) (a1i a2g (a1i d0t (a1i a7o (pvF 0) (a1i d0t (a1i a3l a0k (pvF 2)) a0k)) (pvF 2)) a0k))
   (a0i (a1j (i := 4) b5t.nd rfl (Or.inl rfl) (a0r d4m c9z (by rfl) T.g0p T.b2y.kp T.c2q .nil a0p (a0g (pvF 3) (a0g (pvF 2) a0j))))
   (a0l (a1k (a1i a2g (a1i a2g (a2k b3g (by rfl) T.f4j boot_str (a0g (a1i a4n (pvF 3) (pvF 4)) a0j)) a3w) (a2k b3g (by rfl) T.f4j boot_str (a0g (a1i a4n (pvF 2) (pvF 4)) a0j))))))))), ?_⟩
  have f2 := b5k (M.fdiv 2001) (b := 999) (by decide)
  have f4 := b5k (M.fdiv 9) (b := 4) (by decide)
  walk_at "rd"
  obtain ⟨Mid, pin, pout⟩ := l1f (fun σ' H1 => ∃ b : Int, σ' = [some (.int M), some (.bl g), some (.int b), none, none] /\ H1 = H /\ 2 <= b /\ b <= 1000)
  refine ⟨⟨by decide, by decide⟩, Mid, ?_, ?_⟩
  ·walk_at "rd"
   split
   ·exact ⟨⟨by decide, by decide⟩, pin _ _ ⟨_, rfl, rfl, by omega, by omega⟩⟩
   ·exact pin _ _ ⟨_, rfl, rfl, by omega, by omega⟩
  intro σ' H1 hm2
  obtain ⟨b, rfl, rfl, b1, b2⟩ := pout _ _ hm2
  clear hm2 pin pout f2 f4
  obtain ⟨Mid3, in3, out3⟩ := l1f (fun σ' H2 => ∃ t : Int, σ' = [some (.int M), some (.bl g), some (.int b), some (.int t), none] /\ H2 = H1 /\ (t.natAbs : Int) < b)
  refine ⟨Mid3, ?_, ?_⟩
  ·have f6 := b5k M (b := 2 * b - 1) (by omega)
   walk_at "rd"
   exact ⟨IntMulOk.of_left (by decide), by omega, in3 _ _ ⟨_, rfl, rfl, by omega⟩⟩
  intro σ3 H2 hm3
  obtain ⟨t, rfl, rfl, tb⟩ := out3 _ _ hm3
  clear hm3 in3 out3
  obtain ⟨gp, cf1, cf2, y, oy, y1, y2, yl⟩ := j1z (t := t) (b := b) (by omega) (by omega) b2
  have ge : Int.gcd (t.natAbs : Int) b = Int.gcd t b := by
   have := h2c t b
   rw [<- this, show ((b.natAbs : Nat) : Int) = b by omega]
  rw [ge] at cf1 cf2 y1 y2
  have q := k y oy (yl tb)
  have g1 := c0p (intBits_le_iff.mp oy.b.1) (by decide)
  have g2 := c0p (intBits_le_iff.mp oy.b.2) (by decide)
  have a := c1i (intBits_le_iff.mp oy.b.1) (by decide)
  have c := c1i (intBits_le_iff.mp oy.b.2) (by decide)
  have e1 : (Str.ofString "/").length = 1 := by decide +kernel
  unfold fW at q
  rw [d4l] at q
  rw [y1] at q a g1
  rw [y2] at q c g2
  walk_at "rd"
  refine ⟨cf1, by omega, by omega, cf2, by omega, by rw [strLen_append]; omega, q⟩
theorem m9j (T : Tx K mg A) : a1s P A.wd K mg base CX0 3 A.b4g A.d9j ["_law_mixed", "_law_great"] m3d := by
 have d2l : a1s P A.wd K mg base CX0 2 _ _ _ _ := k5i T
 refine T.c5i.ok c0r (fun vs H Q E h => ?_) (fun cdv A' outer s H vs Q E hr h => ?_)
 ·obtain ⟨_, _, rfl, _⟩ := j0d (by unfold m3d at h; exact h)
  rfl
 ·obtain ⟨M, g, rfl, ⟨m0, k⟩⟩ := j0d (by unfold m3d at h; exact h)
  have hu := hr.units
  have c5u : a2q 2 _ := hr.mono (by decide)
  have hs : sizeLine = 16777216 := sizeLine_eq
  refine ⟨_, (a0i (a1j (i := 2) c0r.nd rfl (Or.inl rfl) (c8z a0j))
   (a0i (a1j (i := 3) c0r.nd rfl (Or.inl rfl) (a1i a7o (a1i a4n (pvF 0) a0k) a0k))
   (a0i (b0r PassesOwn.never rfl (b7j (by rfl) T.c1r (a0g (a1i a2g a0k (a1i a7o (a1i a4n (pvF 0) a0k) a0k)) a0j)) (a5g (i := 4) c0r.nd rfl (Or.inl rfl))
   (a0i (b0q (b5q b5p PySem.F.plainAttrs_list PySem.F.slot_list_append PySem.F.type_list_append b1z (pvF 2) (a0g (a1i a2g (a1i a2g (a2k b3g (by rfl) T.f4j boot_str (a0g (pvF 3) a0j)) a3w) (a0r d2l c5u (by rfl) T.f3s T.b5g.kp T.c3y .nil a0p (a0g (a1i a4n (pvF 0) (a1i a2g (pvF 4) a0k)) (a0g (pvF 1) a0j)))) a0j)))
   (a0l (a1j (i := 3) c0r.nd rfl (Or.inl rfl) (a1i a2g (a1i a2g (pvF 3) a0k) (a1i a7o (a1i a4n (pvF 0) (a1i a2g a0k (pvF 4))) a0k))))))
   (a0l (a1k (a1i a2g a3w (b5q c0l PySem.F.plainAttrs_str PySem.F.slot_str_join PySem.F.type_str_join k4k a3w (a0g (pvF 2) a0j)))))))), ?_⟩
  have f6 := b5k (M.fdiv 7) (b := 6) (by decide)
  have f4 := b5k (M.fdiv 42) (b := 4) (by decide)
  walk_at "rd"
  refine ⟨by omega, fun D H1 n1 S1 h1 => ?_⟩
  walk_at "rd"
  refine ⟨⟨by decide, by decide⟩, ⟨by decide, by decide⟩, by omega, by omega, ?_⟩
  obtain ⟨nn, en⟩ : ∃ nn : Nat, (1 + (M.fdiv 42).fmod 4).toNat = nn := ⟨_, rfl⟩
  rw [en]
  have e1 : (Str.ofString "=").length = 1 := by decide +kernel
  obtain ⟨Pv, pin, pout⟩ := f5n (fun i σ H' => ∃ (cs : List (Int × Rat)) (a : Int) (v4 : Option V), σ = [some (.int M), some (.bl g), some (.ref D), some (.int a), v4] /\ Same H H' /\ H' D = some (.lst ((cs.map cW).map V.str)) /\ cs.length = i /\ 0 <= a /\ a <= 6 + 10 * (i : Int) /\ (∀ c ∈ cs, 0 <= c.1 /\ c.1 < a /\ YOk c.2) /\ (∀ (j : Nat) c d, cs[j]? = some c -> cs[j + 1]? = some d -> c.1 < d.1))
  refine f3n (n := nn) Pv (pin _ _ _ ⟨[], _, _, rfl, S1, h1, rfl, by omega, by omega, (fun c hc => by cases hc), fun j c d h => by simp at h⟩) ?_ ?_
  ·intro i σ H2 hi hp
   obtain ⟨cs, a, v4, rfl, S2, h2, cl, a0, a1, ca, ci⟩ := pout _ _ _ hp
   have g0 := c0p (t := a) (n := 20) (by omega) (by decide)
   have il := c1i (t := a) (n := 20) (by omega) (by decide)
   have f9 := b5k (M.fdiv (50 + (i : Int))) (b := 9) (by decide)
   rw [Int.zero_add]
   clear hp h1
   walk_at "rd*"
   refine ⟨by omega, by omega, ⟨by omega, Nat.le_trans (intBits_le_64 (by omega) (by omega)) (by decide)⟩, fun y oy => ?_⟩
   have fl := d0y oy.b.1 oy.b.2
   rw [l8x (a, y)]
   refine ⟨by rw [strLen_append]; omega, by omega, ?_⟩
   rintro _ H3 ⟨rfl, B3, h3⟩
   walk_at "rd"
   refine ⟨⟨by omega, Nat.le_trans (intBits_le_64 (by omega) (by omega)) (by decide)⟩, pin _ _ _ ⟨cs ++ [(a, y)], _, _, rfl, S2.step n1 B3, by rw [h3, List.map_append, List.map_append]; rfl, by rw [List.length_append, cl]; rfl, by omega, by omega, fun c hc => ?_, fun j c d h1 h2 => ?_⟩⟩
   ·rcases List.mem_append.mp hc with h | h
    ·have := ca c h
     exact ⟨this.1, by omega, this.2.2⟩
    ·obtain rfl := List.mem_singleton.mp h
     exact ⟨a0, by show a < _; omega, oy⟩
   ·rcases Nat.lt_or_ge (j + 1) cs.length with z | z
    ·rw [List.getElem?_append_left (by omega)] at h1
     rw [List.getElem?_append_left z] at h2
     exact ci j c d h1 h2
    ·have hj := (List.getElem?_eq_some_iff.mp h2).1
     rw [List.length_append, List.length_singleton] at hj
     rw [List.getElem?_append_left (by omega)] at h1
     rw [show j + 1 = cs.length by omega, List.getElem?_concat_length] at h2
     cases h2
     exact (ca c (List.mem_of_getElem? h1)).2.1
  ·intro σ H2 hp
   obtain ⟨cs, a, v4, rfl, S2, h2, cl, a0, a1, ca, ci⟩ := pout _ _ _ hp
   have okc : j6t cs := ⟨fun c hc => ⟨(ca c hc).1, by have := (ca c hc).2.1; omega, (ca c hc).2.2⟩, ci, by omega, by omega⟩
   have cln := okc.len
   have e2 : (Str.ofString ",").length = 1 := by decide +kernel
   have jo : JoinOk (Str.ofString ",") (cs.map cW) = true := joinOk_of (n := 45) (fun y hy => by obtain ⟨c, hc, rfl⟩ := List.mem_map.mp hy; exact cln c hc) (by rw [List.length_map, e2, hs]; omega)
   have jl : (Txt.join (Str.ofString ",") (cs.map cW)).length ≤ 600 := by
    rw [l7z, l7y]
    exact okc.n0l
   have e3 : (Str.ofString "swell:").length = 6 := by decide +kernel
   clear h1
   walk_at "rd*"
   refine ⟨cs.map cW, rfl, jo, by omega, ?_⟩
   rw [m3z]
   exact k cs H2 okc (by omega) S2
theorem l9b (T : Tx K mg A) : a1s P A.wd K mg base CX0 4 A.b8q A.f6g ["_law_cell", "_law_great"] j8l := by
 have d2l : a1s P A.wd K mg base CX0 2 _ _ _ _ := k5i T
 have j2a : a1s P A.wd K mg base CX0 2 _ _ _ _ := l9a T
 have j9n : a1s P A.wd K mg base CX0 3 _ _ _ _ := m9j T
 refine T.d1y.ok c4k (fun vs H Q E h => ?_) (fun cdv A' outer s H vs Q E hr h => ?_)
 ·obtain ⟨_, _, rfl, _⟩ := j0d (by unfold j8l at h; exact h)
  rfl
 ·obtain ⟨c, g, rfl, ⟨hc, k⟩⟩ := j0d (by unfold j8l at h; exact h)
  have hu := hr.units
  have c5u : a2q 2 _ := hr.mono (by decide)
  have i4f : a2q 2 _ := hr.mono (by decide)
  have j2b : a2q 3 _ := hr.mono (by decide)
  have hs : sizeLine = 16777216 := sizeLine_eq
  refine ⟨_, (b5o (a1j (i := 2) c4k.nd rfl (Or.inl rfl) (a1i a4n (a1i a7o (a1i a3l (pvF 0) a0k) (a1i a2g (a1i f9z a0k a0k) a0k)) (a1i f9z a0k a0k)))
   (b5o (a1j (i := 3) c4k.nd rfl (Or.inl rfl) (a1i a2g a0k (a1i a7o (a1i a4n (pvF 2) (a1i f9z a0k a0k)) a0k)))
   (b5o (a6k (a2l (c4h hu) (a1i a7o (a1i a4n (pvF 2) (a1i f9z a0k a0k)) a0k) a0k (a2v _))
   (a0l (a1j (i := 3) c4k.nd rfl (Or.inl rfl) (a1i a2g a0k (a1i a7o (a1i a4n (pvF 2) (a1i f9z a0k a0k)) a0k))))
   a2m)
   (a0i (a1j (i := 4) c4k.nd rfl (Or.inl rfl) (a1i a7o (a1i a4n (pvF 2) (a1i f9z a0k a0k)) a0k))
   (a0i (a6k (a2l (c4h hu) (pvF 4) a0k (a2v _))
   (a0l (a1k (a1i a2g a3w (a0r d2l c5u (by rfl) T.f3s T.b5g.kp T.c3y .nil a0p (a0g (pvF 2) (a0g (pvF 1) a0j))))))
   a2m)
   (a0i (a6k (a2l (c4h hu) (pvF 4) a0k (a2v _))
   (a0l (a1k (a1i a2g a3w (a2k b3g (by rfl) T.f4j boot_str (a0g (a1i d0t (pvF 3) a0k) a0j)))))
   a2m)
   (a0i (a6k (a2l (c4h hu) (pvF 4) a0k (a2v _))
   (a0l (a1k (a1i a2g (a1i a2g (a1i a2g (a1i a2g (a1i a2g a3w (a0r d2l c5u (by rfl) T.f3s T.b5g.kp T.c3y .nil a0p (a0g (pvF 2) (a0g (pvF 1) a0j)))) a3w) (a2k b3g (by rfl) T.f4j boot_str (a0g (pvF 3) a0j))) a3w) (a2k b3g (by rfl) T.f4j boot_str (a0g (a1i a7o (a1i a4n (pvF 2) (a1i f9z a0k a0k)) a0k) a0j)))))
   a2m)
   (a0i (a6k (a2l (c4h hu) (pvF 4) a0k (a2v _))
   (a0l (a1k (a1i a2g (a1i a2g (a1i a2g a3w (a0r d2l c5u (by rfl) T.f3s T.b5g.kp T.c3y .nil a0p (a0g (pvF 2) (a0g (pvF 1) a0j)))) a3w) (a2k b3g (by rfl) T.f4j boot_str (a0g (pvF 3) a0j)))))
   a2m)
   (a0i (a6k (a2l (c4h hu) (pvF 4) a0k (a2v _))
   (a0l (a1k (a1i a2g (a1i a2g (a1i a2g a3w (a0r j2a i4f (by rfl) T.j0p T.c0y.kp T.d9v .nil a0p (a0g (pvF 2) (a0g (pvF 1) a0j)))) a3w) (a2k b3g (by rfl) T.f4j boot_str (a0g (pvF 3) a0j)))))
   a2m)
   (a0l (a1k (a0r j9n j2b (by rfl) T.j7w T.c5i.kp T.f6v .nil a0p (a0g (pvF 2) (a0g (pvF 1) a0j)))))))))))))), ?_⟩
  obtain ⟨Mid, min', mout⟩ := l1f (fun σ' H' => ∃ M : Int, σ' = [some (.int c), some (.bl g), some (.int M), none, none] /\ H' = H /\ 0 <= M)
  refine ⟨Mid, ?_, ?_⟩
  ·have fM := b5k (c * 618033988749894848204587) (b := 1000000000000000000000007) (by decide)
   walk_at "rd"
   exact ⟨by walk_at "mul", by decide, by decide, ⟨by decide, by decide⟩, min' _ _ ⟨_, rfl, rfl, by rw [Int.fdiv_eq_ediv_of_nonneg _ (by decide)]; exact Int.ediv_nonneg fM.1 (by decide)⟩⟩
  intro σ' H' hm
  obtain ⟨M, rfl, rfl, m0⟩ := mout _ _ hm
  clear hm min' mout
  have f9 := b5k (M.fdiv 1000000000) (b := 9) (by decide)
  have f40 := b5k (M.fdiv 1000000000) (b := 40) (by decide)
  have f5 := b5k (M.fdiv 10000000) (b := 5) (by decide)
  obtain ⟨Mid1, in1, out1⟩ := l1f (fun σ' H1 => ∃ n : Nat, σ' = [some (.int c), some (.bl g), some (.int M), some (.int n), none] /\ H1 = H' /\ 1 <= n /\ n <= 40)
  refine ⟨Mid1, ?_, ?_⟩
  ·walk_at "rd"
   exact ⟨by decide, ⟨by decide, by decide⟩, in1 _ _ ⟨(1 + (M.fdiv 1000000000).fmod 9).toNat, by rw [Int.toNat_of_nonneg (by omega)], rfl, by omega, by omega⟩⟩
  intro σ1 H1 hm1
  obtain ⟨n', rfl, rfl, n1', n9'⟩ := out1 _ _ hm1
  clear hm1 in1 out1 f9
  obtain ⟨Mid2, in2, out2⟩ := l1f (fun σ' H2 => ∃ n : Nat, σ' = [some (.int c), some (.bl g), some (.int M), some (.int n), none] /\ H2 = H1 /\ 1 <= n /\ n <= 40)
  refine ⟨Mid2, ?_, ?_⟩
  ·walk_at "rd"
   refine ⟨by decide, ⟨by decide, by decide⟩, ?_⟩
   split
   ·exact ⟨by decide, ⟨by decide, by decide⟩, in2 _ _ ⟨(1 + (M.fdiv 1000000000).fmod 40).toNat, by rw [Int.toNat_of_nonneg (by omega)], rfl, by omega, by omega⟩⟩
   ·exact in2 _ _ ⟨n', rfl, rfl, n1', n9'⟩
  intro σ2 H2 hm2
  obtain ⟨n, rfl, rfl, n1, n9⟩ := out2 _ _ hm2
  clear hm2 in2 out2 f40
  have nl := g0g (n := n) (by omega)
  have g0 := c0p (t := (n : Int)) (n := 20) (by omega) (by decide)
  have c0 : (Str.ofString ":").length = 1 := by decide +kernel
  unfold nW at nl
  walk_at "rd"
  refine ⟨by decide, ⟨by decide, by decide⟩, ?_⟩
  have c1 : (Str.ofString "gain:").length = 5 := by decide +kernel
  have c2 : (Str.ofString "delay:").length = 6 := by decide +kernel
  have c3 : (Str.ofString "echo:").length = 5 := by decide +kernel
  have c4 : (Str.ofString "back:").length = 5 := by decide +kernel
  have c5 : (Str.ofString "hall:").length = 5 := by decide +kernel
  split
  ·intro y oy
   have fl := d0y oy.b.1 oy.b.2
   refine ⟨by omega, ?_⟩
   rw [m9h]
   exact k _ _ oy trivial (Same.refl _)
  split
  ·have em : (n : Int) - 1 = ((n - 1 : Nat) : Int) := by omega
   have nl2 := g0g (n := n - 1) (by omega)
   have g2 := c0p (t := ((n - 1 : Nat) : Int)) (n := 20) (by omega) (by decide)
   have v := m3y (n - 1)
   unfold nW at nl2 v
   rw [em]
   refine ⟨by omega, by omega, ?_⟩
   rw [v]
   exact k (.delay (n - 1)) _ (show n - 1 <= 1000 by omega) trivial (Same.refl _)
  split
  ·intro y oy
   have fl := d0y oy.b.1 oy.b.2
   obtain ⟨t, et⟩ : ∃ t : Nat, (M.fdiv 10000000).fmod 5 = (t : Int) := ⟨((M.fdiv 10000000).fmod 5).toNat, by omega⟩
   have tl := g0g (n := t) (by omega)
   have g2 := c0p (t := (t : Int)) (n := 20) (by omega) (by decide)
   have v := m9i y n t
   unfold nW at tl v
   rw [et]
   simp only [strLen_append]
   refine ⟨by omega, by omega, by omega, by omega, by omega, by decide, ⟨by decide, by decide⟩, by omega, by omega, ?_⟩
   rw [v]
   exact k (.echo y n t) _ ⟨oy, by omega, by omega, by omega⟩ trivial (Same.refl _)
  split
  ·intro y oy
   have fl := d0y oy.b.1 oy.b.2
   have v : Str.ofString "back:" ++ fW y ++ Str.ofString ":" ++ nW n = (Dt.back y n).word := by rw [← l3g, d4l]
   unfold nW at v
   simp only [strLen_append]
   refine ⟨by omega, by omega, by omega, by omega, ?_⟩
   rw [v]
   exact k (.back y n) _ ⟨oy, by omega, by omega⟩ trivial (Same.refl _)
  split
  ·intro y oy yl
   have fl := d0y oy.b.1 oy.b.2
   have v : Str.ofString "hall:" ++ fW y ++ Str.ofString ":" ++ nW n = (Dt.hall y n).word := by rw [← l3h, d4l]
   unfold nW at v
   simp only [strLen_append]
   refine ⟨by omega, by omega, by omega, by omega, ?_⟩
   rw [v]
   exact k (.hall y n) _ ⟨oy, yl, by omega, by omega⟩ trivial (Same.refl _)
  ·exact ⟨m0, fun cs H3 okc c4 S3 => k (.swell cs) H3 okc c4 S3⟩
theorem k7v {A : Ad} {H H' : Hp} {o o' : Addr} {d : Dt} {S S' : Int} {ss ss' : List Rat} (ok : d.ok) (h : g2v A H o d S ss) (h' : g2v A H' o' d S' ss') : b8z S d = b8z S' d := by
 cases d with
 | swell cs =>
  obtain ⟨dx, _, ho, ct, ln, us, ps, rfl, hct, hln, TP, sok, R⟩ := h
  obtain ⟨dx', _, ho', ct', ln', us', ps', rfl, hct', hln', TP', sok', R'⟩ := h'
  have m0 : (cs.map fun c => (c.1 + 0, c.2)) = cs := by simp
  have e := h2q (k := 0) ok.2.1 sok (by rw [m0]; exact sok')
  show S = S'
  rw [sok.2.2.2.2.2.2.2.2.2, sok'.2.2.2.2.2.2.2.2.2, e]
 | _ => rfl
theorem l5t (T : Tx K mg A) : a1s P A.wd K mg base CX0 2 A.a9m A.c9s ["_law_told", "_law_block"] i3q := by
 have d4n : a1s P A.wd K mg base CX0 1 _ _ _ _ := k5h T
 refine T.b6t.ok f4p (fun vs H Q E h => ?_) (fun cdv A' outer s H vs Q E hr h => ?_)
 ·obtain ⟨_, _, rfl, _⟩ := c7o (by unfold i3q at h; exact h)
  rfl
 ·obtain ⟨r, bl, rfl, ⟨lo, G, zs, ys, hr', hlo, hbl, el, g1, zl, q⟩⟩ := c7o (by unfold i3q at h; exact h)
  have hu := hr.units
  have hs : sizeLine = 16777216 := sizeLine_eq
  have c8p : a2q 1 _ := hr.mono (by decide)
  have ng : ¬ G < 1 := by omega
  have ne : ((zs.length : Int) = (ys.length : Int)) = True := eq_true (by omega)
  refine ⟨_, (a0i (a6k (pw_or (c0i (a7j (a1p (b9j .tup) (by rfl) T.a3k boot_isinstance (a0g (pvF 0) (a0g (c8y (v := .ty "tuple") (u := .type "tuple") (by rfl) T.d3y rfl rfl) a0j))))) (pw_or (a2l (c7p hu) (a1p a2r (by rfl) T.b3i boot_len (a0g (pvF 0) a0j)) a0k (a2v _)) (pw_or1 (c0i (a7j (a1p (b9j .lst) (by rfl) T.a3k boot_isinstance (a0g (a1o a3q (pvF 0) a0k (fun _ _ => rfl)) (a0g (c8y (v := .ty "list") (u := .type "list") (by rfl) T.b3j rfl rfl) a0j)))))))).pt
   (a0l (a1k h0f))
   a2m)
   (a0i (a6k (pw_or (a2l (c7p hu) (a1p a2r (by rfl) T.b3i boot_len (a0g (a1o a3q (pvF 0) a0k (fun _ _ => rfl)) a0j)) (a1p a2r (by rfl) T.b3i boot_len (a0g (pvF 1) a0j)) (a2v _)) (pw_or (c0i (a7j (a0r d4n c8p (by rfl) T.f6u T.b4j.kp T.c5h .nil a0p (a0g (a1o a3q (pvF 0) a0k (fun _ _ => rfl)) a0j)))) (pw_or1 (a2l of_lt (a1o a3q (pvF 0) a0k (fun _ _ => rfl)) a0k (a2v _))))).pt
   (a0l (a1k h0f))
   a2m)
   (a0i (b0r PassesOwn.never rfl (a5n (a1o a3q (pvF 0) a0k (fun _ _ => rfl))) (a5g (i := 2) f4p.nd rfl (Or.inl rfl))
   (a0l (a6k (c0i (a7j (a0r d4n c8p (by rfl) T.f6u T.b4j.kp T.c5h .nil a0p (a0g (pvF 2) a0j))))
   (a0l (a1k h0f))
   a2m)))
   (a0l (a1k h0f))))), ?_⟩
  walk_at "rd*"
  refine ⟨⟨_, SqL.of hlo⟩, ?_⟩
  obtain ⟨Pv, pin, pout⟩ := f5n (fun i σ H' => ∃ v2 : Option V, σ = [some (.ref r), some (.ref bl), v2] /\ H = H')
  refine b5n (xs := zs.map V.int) Pv (pin _ _ _ ⟨_, rfl, rfl⟩) ?_ ?_ ?_
  ·intro i σ H2 hi hp
   obtain ⟨v2, rfl, rfl⟩ := pout _ _ _ hp
   exact SqL.of hlo
  ·intro i v σ H2 hv hp
   obtain ⟨v2, rfl, rfl⟩ := pout _ _ _ hp
   rw [List.getElem?_map] at hv
   obtain ⟨z, hz, rfl⟩ := Option.map_eq_some_iff.mp hv
   clear hv hp hr' hlo hbl
   walk_at "rd*"
   exact pin _ _ _ ⟨_, rfl, rfl⟩
  ·intro σ H2 hp
   obtain ⟨v2, rfl, rfl⟩ := pout _ _ _ hp
   walk_at "rd"
   exact q
theorem l9c (T : Tx K mg A) : a1s P A.wd K mg base CX0 1 A.b8u A.f6j ["_law_joined_here", "_law_due_here"] j8n := by
 refine T.c3z.ok h1b (fun vs H Q E h => ?_) (fun cdv A' outer s H vs Q E hr h => ?_)
 ·obtain ⟨_, _, rfl, _⟩ := c7o (by unfold j8n at h; exact h)
  rfl
 ·obtain ⟨J, r, rfl, ⟨ps, zs, xs, G, G', lo, hJ, Pz, hr', hlo, C, zl, bG, bG', bz, bx, q⟩⟩ := c7o (by unfold j8n at h; exact h)
  have hu := hr.units
  have hs : sizeLine = 16777216 := sizeLine_eq
  have pl := Pz.1
  have xl := C.1
  have ne : ((ps.length : Int) = (xs.length : Int)) = True := eq_true (by omega)
  refine ⟨_, (a0i (a6k (pw_or (a2l l9s (pvF 0) h0g (a2v _)) (pw_or1 (a2l (c7p hu) (a1p a2r (by rfl) T.b3i boot_len (a0g (pvF 0) a0j)) (a1p a2r (by rfl) T.b3i boot_len (a0g (a1o a3q (pvF 1) a0k (fun _ _ => rfl)) a0j)) (a2v _)))).pt
   (a0l (a1k h0f))
   a2m)
   (a0i (b0r PassesOwn.never rfl (b7j (by rfl) T.c1r (a0g (a1p a2r (by rfl) T.b3i boot_len (a0g (pvF 0) a0j)) a0j)) (a5g (i := 2) h1b.nd rfl (Or.inl rfl))
   (a0l (a6k (a2l (c7p hu) (a1i a3l (a1o a3q (a1o a3q (pvF 0) (pvF 2) (fun _ _ => rfl)) a0k (fun _ _ => rfl)) (a1o a3q (pvF 1) a0k (fun _ _ => rfl))) (a1i a3l (a1o a3q (a1o a3q (pvF 1) a0k (fun _ _ => rfl)) (pvF 2) (fun _ _ => rfl)) (a1o a3q (a1o a3q (pvF 0) (pvF 2) (fun _ _ => rfl)) a0k (fun _ _ => rfl))) (a2v _))
   (a0l (a1k h0f))
   a2m)))
   (a0l (a1k h0f)))), ?_⟩
  walk_at "rd*"
  refine ⟨by omega, by omega, ?_⟩
  rw [Int.toNat_natCast]
  obtain ⟨Pv, pin, pout⟩ := f5n (fun i σ H' => ∃ v2 : Option V, σ = [some (.ref J), some (.ref r), v2] /\ H = H')
  refine f3n (n := xs.length) Pv (pin _ _ _ ⟨_, rfl, rfl⟩) ?_ ?_
  ·intro i σ H2 hi hp
   obtain ⟨v2, rfl, rfl⟩ := pout _ _ _ hp
   obtain ⟨p, hp1⟩ : ∃ p, ps[i]? = some p := ⟨_, List.getElem?_eq_getElem (by omega)⟩
   have hz : zs[i]? = some (zs.getD i 0) := by rw [List.getD_eq_getElem?_getD, List.getElem?_eq_getElem (by omega)]; rfl
   have hpe := Pz.2 i p _ hp1 hz
   have a1 : atI (ps.map V.ref) (i : Int) = some (.ref p) := d7z (by rw [List.getElem?_map, hp1]; rfl)
   have a2 := h6h (ns := xs) (i := i) hi
   have ce : (zs.getD i 0 * G' = xs.getD i 0 * G) = True := eq_true (C.2 i)
   have b1 := c4g bz (by decide) i
   have b2 := c4g bx (by decide) i
   generalize zs.getD i 0 = z at hpe ce b1
   generalize xs.getD i 0 = x at a2 ce b2
   rw [Int.zero_add]
   clear hp hz hp1
   walk_at "rd*"
   refine ⟨IntMulOk.of_le b1 bG' (by decide), IntMulOk.of_le b2 bG (by decide), pin _ _ _ ⟨_, rfl, rfl⟩⟩
  ·intro σ H2 hp
   obtain ⟨v2, rfl, rfl⟩ := pout _ _ _ hp
   walk_at "rd"
   exact q
theorem Bks.same {H H' : Hp} {bs : List Addr} {bk : List (List Int)} (h : Bks H bs bk) (S : Same H H') : Bks H' bs bk := ⟨h.1, fun i p x e1 e2 => S _ _ (h.2 i p x e1 e2)⟩
theorem Bks.snoc {H : Hp} {bs : List Addr} {bk : List (List Int)} {p : Addr} {x : List Int} (h : Bks H bs bk) (hp : H p = some (.lst (x.map V.int))) : Bks H (bs ++ [p]) (bk ++ [x]) := by
 obtain ⟨hl, h⟩ := h
 refine ⟨by rw [List.length_append, List.length_append, hl]; rfl, fun i s e h1 h2 => ?_⟩
 rcases Nat.lt_or_ge i bk.length with z | z
 ·rw [List.getElem?_append_left (by omega)] at h1
  rw [List.getElem?_append_left z] at h2
  exact h i s e h1 h2
 ·have hi := (List.getElem?_eq_some_iff.mp h2).1
  rw [List.length_append, List.length_singleton] at hi
  obtain rfl : i = bk.length := by omega
  rw [<- hl, List.getElem?_concat_length] at h1
  rw [List.getElem?_concat_length] at h2
  cases h1
  cases h2
  exact hp
theorem Bks.put {D : Addr} {H H' : Hp} {bs : List Addr} {bk : List (List Int)} (h : Bks H bs bk) (nD : ∀ p ∈ bs, p ≠ D) (B : a6j D H H') : Bks H' bs bk := ⟨h.1, fun i p x e1 e2 => B _ _ (nD p (List.mem_of_getElem? e1)) (h.2 i p x e1 e2)⟩
theorem l9d {α : Type} (xs : List α) (a b : Nat) (h : a <= b) : g6o xs (some (a : Int)) (some (b : Int)) = (xs.take b).drop a := by
 unfold g6o
 rw [HT.i2a, HT.i2a, List.drop_take]
 rcases Nat.le_total b xs.length with z | z
 ·rw [Nat.min_eq_left z, Nat.min_eq_left (by omega)]
 ·rw [Nat.min_eq_right z]
  rcases Nat.le_total a xs.length with y | y
  ·rw [Nat.min_eq_left y, List.take_of_length_le (by rw [List.length_drop]; omega), List.take_of_length_le (by rw [List.length_drop]; omega)]
  ·rw [Nat.min_eq_right y, List.drop_of_length_le (Nat.le_refl _), List.drop_of_length_le y]
   simp
theorem m4a (T : Tx K mg A) : a1s P A.wd K mg base CX0 1 A.b8s A.f6i ["_law_row", "_law_cells"] l4l := by
 refine T.d2g.ok b8i (fun vs H Q E h => ?_) (fun cdv A' outer s H vs Q E hr h => ?_)
 ·obtain ⟨_, _, rfl, _⟩ := c7o (by unfold l4l at h; exact h)
  rfl
 ·obtain ⟨r, c, rfl, ⟨row, ns, hr', hc, rl, nl, nb, q⟩⟩ := c7o (by unfold l4l at h; exact h)
  have hu := hr.units
  have hs : sizeLine = 16777216 := sizeLine_eq
  refine ⟨_, (a0i (a1j (i := 2) b8i.nd rfl (Or.inl rfl) (c8z a0j))
   (a0i (a1j (i := 3) b8i.nd rfl (Or.inl rfl) a0k)
   (a0i (b0r PassesOwn.never rfl (a5n (pvF 1)) (a5g (i := 4) b8i.nd rfl (Or.inl rfl))
   (a0i (a1j (i := 5) b8i.nd rfl (Or.inl rfl) (a1i a7o (a1i a7o (a1i a3l (pvF 4) a0k) a0k) a0k))
   (a0i (b0q (b5q b5p PySem.F.plainAttrs_list PySem.F.slot_list_append PySem.F.type_list_append b1z (pvF 2) (a0g (a5m j7d (pvF 0) (a3y (pvF 3)) (a3y (a1i a2g (pvF 3) (pvF 5)))) a0j)))
   (a0l (a1j (i := 3) b8i.nd rfl (Or.inl rfl) (a1i a2g (pvF 3) (pvF 5)))))))
   (a0l (a1k (a1i a2g (pvF 2) (c8z (a0g (a5m j7d (pvF 0) (a3y (pvF 3)) b2z) a0j)))))))), ?_⟩
  walk_at "rd*"
  refine fun L H1 n1 S1 h1 => ?_
  have hc1 := S1 _ _ hc
  walk_at "rd*"
  refine ⟨⟨_, SqL.of hc1⟩, ?_⟩
  obtain ⟨Pv, pin, pout⟩ := f5n (fun i σ H' => ∃ (bs : List Addr) (bk : List (List Int)) (a : Nat) (v4 v5 : Option V), σ = [some (.ref r), some (.ref c), some (.ref L), some (.int a), v4, v5] /\ Same H H' /\ H' L = some (.lst (bs.map V.ref)) /\ Bks H' bs bk /\ bk.flatten = row.take a /\ bk.length = i /\ (∀ p ∈ bs, p ≠ L) /\ a <= 7 * i)
  refine b5n (xs := ns.map V.int) Pv (pin _ _ _ ⟨[], [], 0, _, _, rfl, S1, h1, ⟨rfl, fun i p x e => by simp at e⟩, rfl, rfl, (fun p hp => by cases hp), Nat.le_refl _⟩) ?_ ?_ ?_
  ·intro i σ H2 hi hp
   obtain ⟨bs, bk, a, v4, v5, rfl, S2, _⟩ := pout _ _ _ hp
   exact SqL.of (S2 _ _ hc)
  ·intro i v σ H2 hv hp
   obtain ⟨bs, bk, a, v4, v5, rfl, S2, hL, Bk, fl, bl, nL, al⟩ := pout _ _ _ hp
   rw [List.getElem?_map] at hv
   obtain ⟨cc, hcc, rfl⟩ := Option.map_eq_some_iff.mp hv
   have bcc := nb cc (List.mem_of_getElem? hcc)
   have hi := (List.getElem?_eq_some_iff.mp hcc).1
   have hr2 := S2 _ _ hr'
   have f7 := b5k ((cc * 16807).fmod 999979) (b := 7) (by decide)
   obtain ⟨m, em⟩ : ∃ m : Nat, ((cc * 16807).fmod 999979).fmod 7 = m := ⟨(((cc * 16807).fmod 999979).fmod 7).toNat, by omega⟩
   have bsl := Bk.1
   clear hv hp hc1 h1
   walk_at "rd*"
   refine ⟨by walk_at "mul", fun p3 H3 n3 S3 h3 => ?_⟩
   rw [show (a : Int) + (m : Int) = ((a + m : Nat) : Int) by omega, c0m, l9d _ _ _ (by omega)] at h3
   have hL3 := S3 _ _ hL
   have hL2' := hL
   clear hL
   walk_at "rd*"
   refine ⟨by omega, ?_⟩
   rintro _ H4 ⟨rfl, B4, h4⟩
   have n3L : p3 ≠ L := fun e => by rw [e, hL2'] at n3; cases n3
   walk_at "rd*"
   have nL' : ∀ p ∈ bs ++ [p3], p ≠ L := fun p hp => by
    rcases List.mem_append.mp hp with h | h
    ·exact nL p h
    ·obtain rfl := List.mem_singleton.mp h
     exact n3L
   refine pin _ _ _ ⟨bs ++ [p3], bk ++ [(row.take (a + m)).drop a], a + m, _, _, (by rw [Int.natCast_add]), (S2.trans S3).step n1 B4, by rw [h4, List.map_append]; rfl, ((Bk.same S3).snoc h3).put nL' B4, ?_, by rw [List.length_append, bl]; rfl, nL', by omega⟩
   rw [List.flatten_append, fl]
   show row.take a ++ ((row.take (a + m)).drop a ++ []) = _
   rw [List.append_nil]
   conv => rhs; rw [<- List.take_append_drop a (row.take (a + m)), List.take_take, Nat.min_eq_left (by omega)]
  ·intro σ H2 hp
   obtain ⟨bs, bk, a, v4, v5, rfl, S2, hL, Bk, fl, bl, nL, al⟩ := pout _ _ _ hp
   have hr2 := S2 _ _ hr'
   have bsl := Bk.1
   clear hp hc1 h1
   walk_at "rd*"
   refine fun p3 H3 n3 S3 h3 => ?_
   rw [c0m, a5v] at h3
   walk_at "rd*"
   refine fun l4 H4 n4 S4 h4 => ?_
   have hL4 := S4 _ _ (S3 _ _ hL)
   clear hL
   walk_at "rd*"
   refine ⟨by omega, fun l5 H5 n5 S5 h5 => ?_⟩
   have S25 := S3.trans (S4.trans S5)
   refine q l5 (bs ++ [p3]) (bk ++ [row.drop a]) H5 ((S2.trans (S3.trans S4)).free n5) (S2.trans S25) (by rw [h5, List.map_append]; rfl) ((Bk.same S25).snoc (S5 _ _ (S4 _ _ h3))) (by rw [List.flatten_append, fl]; simp) (by rw [List.length_append, List.length_singleton, bl, List.length_map]; omega)
theorem m9k (T : Tx K mg A) : a1s P A.wd K mg base CX0 9 A.c4p A.g2i ["_law_words", "_law_tops", "_law_bottom"] (m3e A) := by
 have b3k : a1s P A.wd K mg base CX0 8 _ _ _ _ := j9d T
 have a1h : a1s P A.wd K mg base CX0 1 _ _ _ _ := k5d T
 have a7h : a1s P A.wd K mg base CX0 1 _ _ _ _ := i0y T
 have c9u : a1s P A.wd K mg base CX0 2 _ _ _ _ := j1f T
 have c5o : a1s P A.wd K mg base CX0 2 _ _ _ _ := i1b T
 have c9v : a1s P A.wd K mg base CX0 2 _ _ _ _ := j1g T
 have c9w : a1s P A.wd K mg base CX0 2 _ _ _ _ := j1h T
 have c9y : a1s P A.wd K mg base CX0 2 _ _ _ _ := j1i T
 have c5p : a1s P A.wd K mg base CX0 3 _ _ _ _ := i1c T
 have a4u : a1s P A.wd K mg base CX0 1 _ _ _ _ := g0v T
 have b1v : a1s P A.wd K mg base CX0 1 _ _ _ _ := g0w T
 have b1w : a1s P A.wd K mg base CX0 1 _ _ _ _ := g0x T
 have b1y : a1s P A.wd K mg base CX0 1 _ _ _ _ := g0y T
 have a9v : a1s P A.wd K mg base CX0 1 _ _ _ _ := f3z T
 have a2w := T.a2w
 have a1t := T.a1t
 have a2o := T.a2o
 have a1q := T.a1q
 have a2t := T.a2t
 have a1m := T.a1m
 have a1n := T.a1n
 have a1l := T.a1l
 have a0w := T.a0w
 have a0m := T.a0m
 have a2y := T.a2y
 have a1u := T.a1u
 have a1v := T.a1v
 have a3h := T.a3h
 have a1y := T.a1y
 have a1z := T.a1z
 have a2i := T.a2i
 have a0q := T.a0q
 have a0s := T.a0s
 have a1g := T.a1g
 refine T.d9w.ok c3v (fun vs H Q E h => ?_) (fun cdv A' outer s H vs Q E hr h => ?_)
 ·obtain ⟨_, _, _, rfl, _⟩ := f4m (by unfold m3e at h; exact h)
  rfl
 ·obtain ⟨l, t, b, rfl, ⟨ds, row, hl, ht, l8, ok, rl, b1, bb, hb, q⟩⟩ := f4m (by unfold m3e at h; exact h)
  have hu := hr.units
  have b0o : a2q 8 _ := hr.mono (by decide)
  have a0t : a2q 1 _ := hr.mono (by decide)
  have a5s : a2q 1 _ := hr.mono (by decide)
  have c5q : a2q 2 _ := hr.mono (by decide)
  have c1s : a2q 2 _ := hr.mono (by decide)
  have c5r : a2q 2 _ := hr.mono (by decide)
  have c5s : a2q 2 _ := hr.mono (by decide)
  have c5t : a2q 2 _ := hr.mono (by decide)
  have c1t : a2q 3 _ := hr.mono (by decide)
  have a3v : a2q 1 _ := hr.mono (by decide)
  have a9w : a2q 1 _ := hr.mono (by decide)
  have a9y : a2q 1 _ := hr.mono (by decide)
  have a9z : a2q 1 _ := hr.mono (by decide)
  have a7n : a2q 1 _ := hr.mono (by decide)
  have hs : sizeLine = 16777216 := sizeLine_eq
  refine ⟨_, (a0i (b0r PassesOwn.never rfl (a5n (pvF 0)) (a5g (i := 3) c3v.nd rfl (Or.inl rfl))
   (a0i (a1j (i := 4) c3v.nd rfl (Or.inl rfl) (a0r b3k b0o (by rfl) T.c0w T.b0h.kp T.b3h .nil a0p (a0g (pvF 3) a0j)))
   (a0i (m5t (a0o (a8y (pvF 4) T.a2w T.d9y c9u c5q T.b9o .nil a0p (a0g (a0o (a0n (pvF 4) T.a2w T.a9p a1h a0t T.a0z .nil a0p) (a0o (a0n (pvF 4) T.a2o T.a7k a1h a0t T.a0z .nil a0p) (a0o (a0n (pvF 4) T.a2t T.a9q a1h a0t T.a0z .nil a0p) (a0o (a0n (pvF 4) T.a2y T.a9r a1h a0t T.a0z .nil a0p) (a0o (a0n (pvF 4) T.a3h T.a9s a1h a0t T.a0z .nil a0p) (a0n (pvF 4) T.a2i T.a7l a7h a5s T.a5q .nil a0p)))))) (a0g (a2k a4w (by rfl) T.b3j boot_list (a0g (pvF 1) a0j)) (a0g (pvF 2) a0j)))) (a0o (a8y (pvF 4) T.a2o T.d7j c5o c1s T.b6k .nil a0p (a0g (a0o (a0n (pvF 4) T.a2w T.a9p a1h a0t T.a0z .nil a0p) (a0o (a0n (pvF 4) T.a2o T.a7k a1h a0t T.a0z .nil a0p) (a0o (a0n (pvF 4) T.a2t T.a9q a1h a0t T.a0z .nil a0p) (a0o (a0n (pvF 4) T.a2y T.a9r a1h a0t T.a0z .nil a0p) (a0o (a0n (pvF 4) T.a3h T.a9s a1h a0t T.a0z .nil a0p) (a0n (pvF 4) T.a2i T.a7l a7h a5s T.a5q .nil a0p)))))) (a0g (a2k a4w (by rfl) T.b3j boot_list (a0g (pvF 1) a0j)) (a0g (pvF 2) a0j)))) (a0o (a8y (pvF 4) T.a2t T.d9z c9v c5r T.b9q .nil a0p (a0g (a0o (a0n (pvF 4) T.a2w T.a9p a1h a0t T.a0z .nil a0p) (a0o (a0n (pvF 4) T.a2o T.a7k a1h a0t T.a0z .nil a0p) (a0o (a0n (pvF 4) T.a2t T.a9q a1h a0t T.a0z .nil a0p) (a0o (a0n (pvF 4) T.a2y T.a9r a1h a0t T.a0z .nil a0p) (a0o (a0n (pvF 4) T.a3h T.a9s a1h a0t T.a0z .nil a0p) (a0n (pvF 4) T.a2i T.a7l a7h a5s T.a5q .nil a0p)))))) (a0g (a2k a4w (by rfl) T.b3j boot_list (a0g (pvF 1) a0j)) (a0g (pvF 2) a0j)))) (a0o (a8y (pvF 4) T.a2y T.f0g c9w c5s T.b9s .nil a0p (a0g (a0o (a0n (pvF 4) T.a2w T.a9p a1h a0t T.a0z .nil a0p) (a0o (a0n (pvF 4) T.a2o T.a7k a1h a0t T.a0z .nil a0p) (a0o (a0n (pvF 4) T.a2t T.a9q a1h a0t T.a0z .nil a0p) (a0o (a0n (pvF 4) T.a2y T.a9r a1h a0t T.a0z .nil a0p) (a0o (a0n (pvF 4) T.a3h T.a9s a1h a0t T.a0z .nil a0p) (a0n (pvF 4) T.a2i T.a7l a7h a5s T.a5q .nil a0p)))))) (a0g (a2k a4w (by rfl) T.b3j boot_list (a0g (pvF 1) a0j)) (a0g (pvF 2) a0j)))) (a0o (a8y (pvF 4) T.a3h T.f0h c9y c5t T.b9u .nil a0p (a0g (a0o (a0n (pvF 4) T.a2w T.a9p a1h a0t T.a0z .nil a0p) (a0o (a0n (pvF 4) T.a2o T.a7k a1h a0t T.a0z .nil a0p) (a0o (a0n (pvF 4) T.a2t T.a9q a1h a0t T.a0z .nil a0p) (a0o (a0n (pvF 4) T.a2y T.a9r a1h a0t T.a0z .nil a0p) (a0o (a0n (pvF 4) T.a3h T.a9s a1h a0t T.a0z .nil a0p) (a0n (pvF 4) T.a2i T.a7l a7h a5s T.a5q .nil a0p)))))) (a0g (a2k a4w (by rfl) T.b3j boot_list (a0g (pvF 1) a0j)) (a0g (pvF 2) a0j)))) (a8y (pvF 4) T.a2i T.d7k c5p c1t T.b6p .nil a0p (a0g (a0o (a0n (pvF 4) T.a2w T.a9p a1h a0t T.a0z .nil a0p) (a0o (a0n (pvF 4) T.a2o T.a7k a1h a0t T.a0z .nil a0p) (a0o (a0n (pvF 4) T.a2t T.a9q a1h a0t T.a0z .nil a0p) (a0o (a0n (pvF 4) T.a2y T.a9r a1h a0t T.a0z .nil a0p) (a0o (a0n (pvF 4) T.a3h T.a9s a1h a0t T.a0z .nil a0p) (a0n (pvF 4) T.a2i T.a7l a7h a5s T.a5q .nil a0p)))))) (a0g (a2k a4w (by rfl) T.b3j boot_list (a0g (pvF 1) a0j)) (a0g (pvF 2) a0j))))))))) (i2g (n := 2) rfl (c0o (a5g (i := 1) c3v.nd rfl (Or.inl rfl)) (c0o (a5g (i := 5) c3v.nd rfl (Or.inl rfl)) g9y))))
   (a0l (a1j (i := 2) c3v.nd rfl (Or.inl rfl) (a1i a3l (pvF 2) (a0o (a0n (pvF 4) T.a2w T.c2r b1v a9w T.b4w .nil a0p) (a0o (a0n (pvF 4) T.a2o T.b9v a4u a3v T.a5r .nil a0p) (a0o (a0n (pvF 4) T.a2t T.c2s b1w a9y T.b4y .nil a0p) (a0o (a0n (pvF 4) T.a2y T.c2t b1y a9z T.b4z .nil a0p) (a0o (a0n (pvF 4) T.a3h T.c2u a4u a3v T.a5r .nil a0p) (a0n (pvF 4) T.a2i T.b9w a9v a7n T.b2u .nil a0p))))))))))))
   (a0l (a1k (a8w (a0g (pvF 1) (a0g (pvF 2) a0j)))))), ?_⟩
  walk_at "rd*"
  refine ⟨⟨_, SqL.of hl⟩, ?_⟩
  obtain ⟨Pv, pin, pout⟩ := f5n (fun i σ H' => ∃ (lo : Addr) (os : List Addr) (xs : List (Dt × Int × List Rat)) (v3 v4 v5 : Option V), σ = [some (.ref l), some (.ref lo), some (.int (g2x b xs)), v3, v4, v5] /\ Same H H' /\ H' lo = some (.lst ((g1t xs b row).map V.int)) /\ h0a A H' os xs /\ xs.map (·.1) = ds.take i)
  refine b5n (xs := ds.map fun d => V.str d.word) Pv (pin _ _ _ ⟨t, [], [], _, _, _, rfl, Same.refl _, ht, ⟨rfl, fun i o x e => by simp at e⟩, by rw [List.take_zero]; rfl⟩) ?_ ?_ ?_
  ·intro i σ H2 hi hp
   obtain ⟨lo, os, xs, v3, v4, v5, rfl, S2, _⟩ := pout _ _ _ hp
   exact SqL.of (S2 _ _ hl)
  ·intro i v σ H2 hv hp
   obtain ⟨lo, os, xs, v3, v4, v5, rfl, S2, hlo, R, ex⟩ := pout _ _ _ hp
   rw [List.getElem?_map] at hv
   obtain ⟨d, hd, rfl⟩ := Option.map_eq_some_iff.mp hv
   have okd := ok d (List.mem_of_getElem? hd)
   have xl : xs.length <= 8 := by
    have := congrArg List.length ex
    rw [List.length_map, List.length_take] at this
    omega
   have okx : ∀ x ∈ xs, x.1.ok /\ Dt.few x.1 := fun x hx => ok _ (List.mem_of_mem_take (by rw [<- ex]; exact List.mem_map_of_mem hx))
   clear hv hp
   walk_at "rd"
   refine ⟨d, okd.1, rfl, fun o H3 n3 S3 hp3 => ?_⟩
   obtain ⟨S, ss, hps⟩ := hp3.pick
   have n5a := S3 _ _ hlo
   have R3 := R.same S3
   clear hlo R
   obtain ⟨gb, g1⟩ := c1h R3 okx b1 bb
   have rb := f0n R3 (fun x hx => (okx x hx).1) b1 (by decide) (by omega) hb
   refine n4w (by rfl) hps ?_
   try walk_at "rd"
   refine fr6 (by rfl) hps fun st H4 S4 hst => ?_
   have l6p := S4 _ _ n5a
   clear n5a
   walk_at "rd*"
   refine fun l5 H5 n5 S5 h5 => ?_
   have S35 := S4.trans S5
   have n3f := hps.same S35
   have m9e : StV H5 (g2x b xs) [] st d := (hst _).same S5
   walk_at "rd*"
   refine ⟨d, rfl, S, ss, n3f, okd.1, [], m9e, g1t xs b row, rfl, by decide, by rw [f4g]; omega, by omega, (fun z hz => by rw [List.nil_append] at hz; exact Nat.le_trans (rb z hz) (by omega)), fun r ou st' H6 S6 nr no h6 ho6 hst6 => ?_⟩
   have n3g := n3f.same S6
   clear l6p h5 n3f m9e
   walk_at "rd*"
   refine gr6 (by rfl) n3g ?_
   walk_at "rd*"
   have S36 := S35.trans S6
   refine ⟨IntMulOk.of_le gb (c5n okd.1 okd.2 n3g) (by omega), pin _ _ _ ⟨ou, os ++ [o], xs ++ [(d, S, ss)], _, _, _, by rw [g1a]; rfl, S2.trans (S3.trans S36), by rw [ho6, j1r]; rfl, ((R3.same S36).snoc n3g), ?_⟩⟩
   rw [List.map_append, ex, List.take_add_one, hd]
   rfl
  ·intro σ H2 hp
   obtain ⟨lo, os, xs, v3, v4, v5, rfl, S2, hlo, R, ex⟩ := pout _ _ _ hp
   rw [List.length_map, List.take_length] at ex
   walk_at "rd*"
   exact fun r H3 n3 S3 h3 => q r lo os xs H3 (S2.trans S3) ex (R.same S3) h3 (S3 _ _ hlo)
theorem l5u {z : Str} (hz : PyData.strOk z = true) : ∀ {xs : List Str}, (∀ x ∈ xs, PyData.strOk x = true) -> PyData.strOk (Str.join z xs) = true
 | [], _ => g0i
 | [x], h => h x List.mem_cons_self
 | x :: y :: xs, h => a7p (a7p (h x List.mem_cons_self) hz) (l5u hz (xs := y :: xs) fun w hw => h w (List.mem_cons_of_mem _ hw))
theorem l9e (d : Dt) : PyData.strOk d.word = true := by
 cases d with
 | gain y => exact i2m (by show 0 < 4; decide)
 | delay n => exact i2m (by show 1 < 4; decide)
 | echo y n t => exact i2m (by show 2 < 4; decide)
 | back y n => exact i2m (by show 3 < 4; decide)
 | hall y n => rw [<- l3h]; exact a7p (a7p (a7p (a7p g0i (c9g _)) (l3i _)) (c9g _)) (c9g _)
 | swell cs =>
  rw [<- j7k, l7z]
  refine a7p (a7p g0i (c9g _)) (l5u (c9g _) fun x hx => ?_)
  obtain ⟨c, _, rfl⟩ := List.mem_map.mp hx
  unfold cW
  exact a7p (a7p (a7p g0i (c9g _)) (c9g _)) (l3i _)
theorem k7w {sp : Sp} {E : XK} {σ : L2.St} {i : Nat} {H : Hp} {Q : VK} {d : Dt} (hσ : σ[i]? = some (some (.str d.word))) (ok : d.ok) (q : ∀ o H1, Same H H1 → IsP A H1 o d → sp [.ref o] H1 Q E) : a3o (clsOf A d) "grain" sp [] E (h6f (f4s A) [] E0 (h6e (a7q i) d7w)) d7w σ H Q := by
 simp only [a3o, h6f, h6e, a7q, d7w, hσ]
 refine ⟨d, ok, rfl, fun o H1 n1 S1 hp => ?_⟩
 obtain ⟨dx, fs, ho, hf⟩ := id hp
 simp only [ho]
 exact ⟨trivial, lk6 hf (by decide +kernel), q o H1 S1 hp⟩
theorem gr6w {σ : L2.St} {i : Nat} {H : Hp} {d : Dt} {Q : VK} {E : XK} (hσ : σ[i]? = some (some (.str d.word))) (ok : d.ok) (q : ∀ o S ss H1, Same H H1 -> g2v A H1 o d S ss -> Q (.int (b8z S d)) H1) :
  a3p (a3o A.a5k "grain" (g6v A 0) [] E (h6f (f4s A) [] E0 (h6e (a7q i) d7w)) d7w) (a3p (a3o A.a3m "grain" d3z [] E (h6f (f4s A) [] E0 (h6e (a7q i) d7w)) d7w) (a3p (a3o A.a3j "grain" (g6v A 2) [] E (h6f (f4s A) [] E0 (h6e (a7q i) d7w)) d7w) (a3p (a3o A.a4s "grain" (g6v A 3) [] E (h6f (f4s A) [] E0 (h6e (a7q i) d7w)) d7w) (a3p (a3o A.a4y "grain" d3z [] E (h6f (f4s A) [] E0 (h6e (a7q i) d7w)) d7w) (a3o A.a2n "grain" (g6v A 5) [] E (h6f (f4s A) [] E0 (h6e (a7q i) d7w)) d7w))))) σ H Q := by
 have g : ∀ o H1, Same H H1 -> IsP A H1 o d -> ∃ S ss, g2v A H1 o d S ss /\ Q (.int (b8z S d)) H1 := fun o H1 S1 hp => by
  obtain ⟨S, ss, hps⟩ := hp.pick
  exact ⟨S, ss, hps, q o S ss H1 S1 hps⟩
 cases d with
 | gain y => exact .inl (k7w hσ ok fun o H1 S1 hp => by obtain ⟨S, ss, h1, h2⟩ := g o H1 S1 hp; exact ⟨_, S, ss, rfl, h1, h2⟩)
 | delay n => exact .inr (.inl (k7w (d := .delay n) hσ ok fun o H1 S1 hp => by obtain ⟨S, ss, h1, h2⟩ := g o H1 S1 hp; exact h2))
 | echo y n t => exact .inr (.inr (.inl (k7w (d := .echo y n t) hσ ok fun o H1 S1 hp => by obtain ⟨S, ss, h1, h2⟩ := g o H1 S1 hp; exact ⟨_, S, ss, rfl, h1, h2⟩)))
 | back y n => exact .inr (.inr (.inr (.inl (k7w (d := .back y n) hσ ok fun o H1 S1 hp => by obtain ⟨S, ss, h1, h2⟩ := g o H1 S1 hp; exact ⟨_, S, ss, rfl, h1, h2⟩))))
 | hall y n => exact .inr (.inr (.inr (.inr (.inl (k7w (d := .hall y n) hσ ok fun o H1 S1 hp => by obtain ⟨S, ss, h1, h2⟩ := g o H1 S1 hp; exact h2)))))
 | swell cs => exact .inr (.inr (.inr (.inr (.inr (k7w (d := .swell cs) hσ ok fun o H1 S1 hp => by obtain ⟨S, ss, h1, h2⟩ := g o H1 S1 hp; exact ⟨_, S, ss, rfl, h1, h2⟩)))))
theorem l9f (T : Tx K mg A) : a1s P A.wd K mg base CX0 10 A.a5i A.b8t ["_law_chain", "_law_words"] (j8m A) := by
 have g1b : a1s P A.wd K mg base CX0 4 _ _ _ _ := m9g T
 have i4g : a1s P A.wd K mg base CX0 2 _ _ _ _ := m9f T
 have d4n : a1s P A.wd K mg base CX0 1 _ _ _ _ := k5h T
 have b3k : a1s P A.wd K mg base CX0 8 _ _ _ _ := j9d T
 have a4u : a1s P A.wd K mg base CX0 1 _ _ _ _ := g0v T
 have b1v : a1s P A.wd K mg base CX0 1 _ _ _ _ := g0w T
 have b1w : a1s P A.wd K mg base CX0 1 _ _ _ _ := g0x T
 have b1y : a1s P A.wd K mg base CX0 1 _ _ _ _ := g0y T
 have a9v : a1s P A.wd K mg base CX0 1 _ _ _ _ := f3z T
 have a6i := T.a6i
 have a2j := T.a2j
 have a1w := T.a1w
 have a2w := T.a2w
 have a1t := T.a1t
 have a2o := T.a2o
 have a1q := T.a1q
 have a2t := T.a2t
 have a1m := T.a1m
 have a1n := T.a1n
 have a1l := T.a1l
 have a0w := T.a0w
 have a0m := T.a0m
 have a2y := T.a2y
 have a1u := T.a1u
 have a1v := T.a1v
 have a3h := T.a3h
 have a1y := T.a1y
 have a1z := T.a1z
 have a2i := T.a2i
 have a0q := T.a0q
 have a0s := T.a0s
 have a1g := T.a1g
 refine T.a5j.ok a5t (fun vs H Q E h => ?_) (fun cdv A' outer s H vs Q E hr h => ?_)
 ·obtain ⟨_, _, rfl, _⟩ := c7o (by unfold j8m at h; exact h)
  rfl
 ·obtain ⟨o, l, rfl, ⟨pl, sl, b, ds, xs, hC, l8, ok, hl, q⟩⟩ := c7o (by unfold j8m at h; exact h)
  have hu := hr.units
  have f4t : a2q 4 _ := hr.mono (by decide)
  have h6s : a2q 2 _ := hr.mono (by decide)
  have c8p : a2q 1 _ := hr.mono (by decide)
  have b0o : a2q 8 _ := hr.mono (by decide)
  have a3v : a2q 1 _ := hr.mono (by decide)
  have a9w : a2q 1 _ := hr.mono (by decide)
  have a9y : a2q 1 _ := hr.mono (by decide)
  have a9z : a2q 1 _ := hr.mono (by decide)
  have a7n : a2q 1 _ := hr.mono (by decide)
  have hs : sizeLine = 16777216 := sizeLine_eq
  obtain ⟨dx, os, sts, ho, hpl, hsl, R, ST⟩ := id hC
  unfold chF at ho
  refine ⟨_, (a0i (a1j (i := 2) a5t.nd rfl (Or.inl rfl) (a0n (pvF 0) T.a6i T.f4r g1b f4t T.c2p .nil a0p))
   (a0i (a6k (pw_or (c0i (a7j (a1p (b9j .lst) (by rfl) T.a3k boot_isinstance (a0g (pvF 2) (a0g (c8y (v := .ty "list") (u := .type "list") (by rfl) T.b3j rfl rfl) a0j))))) (pw_or1 (a2l (c7p hu) (pvF 2) (pvF 1) (a2v _)))).pt
   (a0l (a1k h0f))
   a2m)
   (a0i (b0q (b5q b5p PySem.F.plainAttrs_list PySem.F.slot_list_append PySem.F.type_list_append b1z (pvF 2) (a0g a3w a0j)))
   (a0i (a1j (i := 3) a5t.nd rfl (Or.inl rfl) a0k)
   (a0i (b0r PassesOwn.never rfl (a5n (pvF 1)) (a5g (i := 4) a5t.nd rfl (Or.inl rfl))
   (a0l (a1j (i := 3) a5t.nd rfl (Or.inl rfl) (a1i a3l (pvF 3) (a0o (a0n (a0r b3k b0o (by rfl) T.c0w T.b0h.kp T.b3h .nil a0p (a0g (pvF 4) a0j)) T.a2w T.c2r b1v a9w T.b4w .nil a0p) (a0o (a0n (a0r b3k b0o (by rfl) T.c0w T.b0h.kp T.b3h .nil a0p (a0g (pvF 4) a0j)) T.a2o T.b9v a4u a3v T.a5r .nil a0p) (a0o (a0n (a0r b3k b0o (by rfl) T.c0w T.b0h.kp T.b3h .nil a0p (a0g (pvF 4) a0j)) T.a2t T.c2s b1w a9y T.b4y .nil a0p) (a0o (a0n (a0r b3k b0o (by rfl) T.c0w T.b0h.kp T.b3h .nil a0p (a0g (pvF 4) a0j)) T.a2y T.c2t b1y a9z T.b4z .nil a0p) (a0o (a0n (a0r b3k b0o (by rfl) T.c0w T.b0h.kp T.b3h .nil a0p (a0g (pvF 4) a0j)) T.a3h T.c2u a4u a3v T.a5r .nil a0p) (a0n (a0r b3k b0o (by rfl) T.c0w T.b0h.kp T.b3h .nil a0p (a0g (pvF 4) a0j)) T.a2i T.b9w a9v a7n T.b2u .nil a0p))))))))))
   (a0i (a1j (i := 5) a5t.nd rfl (Or.inl rfl) (a0n (pvF 0) T.a6i T.h6p i4g h6s T.d3u .nil a0p))
   (a0l (a1k (h0t (h0i (c4h hu) (a0n (pvF 0) T.a6i T.f4r g1b f4t T.c2p .nil a0p) (pvF 1) (a2v _)) (h0t (a0r d4n c8p (by rfl) T.f6u T.b4j.kp T.c5h .nil a0p (a0g (pvF 5) a0j)) (k3x (h0i (c4h hu) (pvF 5) (pvF 3) (a2v _))))))))))))), ?_⟩
  walk_at "rd*"
  have ew : (ds.map (·.1)).map (fun d => V.str d.word) = ((ds.map (·.1)).map Dt.word).map V.str := by simp
  have wso : ∀ z ∈ (ds.map (·.1)).map Dt.word, PyData.strOk z = true := fun z hz => by
   obtain ⟨d, _, rfl⟩ := List.mem_map.mp hz
   exact l9e d
  have wl : ((ds.map (·.1)).map Dt.word).length <= 8 := by rw [List.length_map, List.length_map]; exact l8
  refine ⟨pl, sl, b, ds, xs, hC, l8, ok, ?_⟩
  rintro _ H1 ⟨l1, rfl, n1, S1, h1⟩
  have hl1 := S1 _ _ hl
  rw [ew] at h1 hl1
  walk_at "rd*"
  refine l8a (SqL.of h1) (SqL.of hl1) wso wso ?_
  rw [decide_eq_true rfl]
  walk_at "rd*"
  refine ⟨by omega, ?_⟩
  rintro _ H2 ⟨rfl, B2, h2⟩
  have S2 : Same H H2 := S1.step n1 B2
  have hl2 := S2 _ _ hl
  clear h1 hl1 ho
  walk_at "rd*"
  refine ⟨⟨_, SqL.of hl2⟩, ?_⟩
  obtain ⟨Pv, pin, pout⟩ := f5n (fun i σ H' => ∃ (v4 : Option V), σ = [some (.ref o), some (.ref l), some (.ref l1), some (.int (g2x 1 (ds.take i))), v4, none] /\ Same H H')
  refine b5n (xs := (ds.map (·.1)).map fun d => V.str d.word) Pv (pin _ _ _ ⟨_, rfl, S2⟩) ?_ ?_ ?_
  ·intro i σ H3 hi hp
   obtain ⟨v4, rfl, S3⟩ := pout _ _ _ hp
   exact SqL.of (S3 _ _ hl)
  ·intro i v σ H3 hv hp
   obtain ⟨v4, rfl, S3⟩ := pout _ _ _ hp
   rw [List.map_map, List.getElem?_map] at hv
   obtain ⟨x, hx, rfl⟩ := Option.map_eq_some_iff.mp hv
   have okx := ok x (List.mem_of_getElem? hx)
   have hi := (List.getElem?_eq_some_iff.mp hx).1
   obtain ⟨oi, hoi⟩ : ∃ oi, os[i]? = some oi := ⟨_, List.getElem?_eq_getElem (by have := R.1; omega)⟩
   have hpi := R.2 i oi x hoi hx
   have et : ds.take (i + 1) = ds.take i ++ [x] := by rw [List.take_add_one, hx]; rfl
   obtain ⟨gb, g1⟩ := c1h (R.take i) (b := 1) (B := 64) (fun d hd => ok d (List.mem_of_mem_take hd)) (by decide) (by decide)
   have tl : (ds.take i).length <= 8 := by rw [List.length_take]; omega
   clear hv hp hl2 h2
   walk_at "rd"
   refine gr6w (d := x.1) rfl okx.1 fun o' S' ss' H4 S4 hp4 => ?_
   rw [<- k7v okx.1 hpi hp4]
   walk_at "rd"
   refine ⟨IntMulOk.of_le gb (c5n okx.1 okx.2 hpi) (by omega), pin _ _ _ ⟨_, by rw [et, g1a]; rfl, S3.trans S4⟩⟩
  ·intro σ H3 hp
   obtain ⟨v4, rfl, S3⟩ := pout _ _ _ hp
   rw [List.length_map, List.length_map, List.take_length]
   have ho3 := (hC.same S3)
   obtain ⟨dx', os', sts', ho3', _⟩ := id ho3
   unfold chF at ho3'
   clear hl2 h2
   walk_at "rd*"
   refine ⟨pl, sl, b, ds, xs, ho3, l8, ok, pl, sl, b, ds, xs, ho3, l8, ok, ?_⟩
   rintro _ H4 ⟨l4, rfl, n4, S4, h4⟩
   have hl4 := S4 _ _ (S3 _ _ hl)
   rw [ew] at h4 hl4
   clear ho3'
   walk_at "rd*"
   refine l8b (SqL.of h4) (SqL.of hl4) wso wso ?_
   rw [decide_eq_true rfl]
   walk_at "rd*"
   exact q H4 (S3.trans S4)
theorem i9b.same {H H' : Hp} {ps : List Addr} {zs : List Int} {G : Int} (h : i9b H ps zs G) (S : Same H H') : i9b H' ps zs G := ⟨h.1, fun i p z e1 e2 => S _ _ (h.2 i p z e1 e2)⟩
theorem i9b.put {D : Addr} {H H' : Hp} {ps : List Addr} {zs : List Int} {G : Int} (h : i9b H ps zs G) (nt : ∀ ts, H D ≠ some (.tup ts)) (B : a6j D H H') : i9b H' ps zs G := ⟨h.1, fun i p z e1 e2 => B _ _ (fun q => nt _ (by rw [<- q]; exact h.2 i p z e1 e2)) (h.2 i p z e1 e2)⟩
theorem i9b.app {H : Hp} {ps ps' : List Addr} {zs zs' : List Int} {G : Int} (h : i9b H ps zs G) (h' : i9b H ps' zs' G) : i9b H (ps ++ ps') (zs ++ zs') G := by
 obtain ⟨hl, h⟩ := h
 refine ⟨by rw [List.length_append, List.length_append, hl, h'.1], fun i p z e1 e2 => ?_⟩
 rcases Nat.lt_or_ge i zs.length with c | c
 ·rw [List.getElem?_append_left (by omega)] at e1
  rw [List.getElem?_append_left c] at e2
  exact h i p z e1 e2
 ·rw [List.getElem?_append_right (by omega)] at e1
  rw [List.getElem?_append_right c, <- hl] at e2
  exact h'.2 _ p z e1 e2
theorem l5v (T : Tx K mg A) : a1s P A.wd K mg base CX0 5 A.b1p A.d3h ["_law_chain", "_law_blocks", "_law_bottom"] (i3r A) := by
 have h2u : a1s P A.wd K mg base CX0 4 _ _ _ _ := m3w T
 have i4h : a1s P A.wd K mg base CX0 2 _ _ _ _ := l5t T
 have a6i := T.a6i
 have a2j := T.a2j
 have a1w := T.a1w
 refine T.b5h.ok b2r (fun vs H Q E h => ?_) (fun cdv A' outer s H vs Q E hr h => ?_)
 ·obtain ⟨_, _, _, rfl, _⟩ := f4m (by unfold i3r at h; exact h)
  rfl
 ·obtain ⟨o, L, b, rfl, ⟨pl, sl, ds, bs, bk, hC, l8, ok, b1, bb, hL, Bk, fl, bl, hb, q⟩⟩ := f4m (by unfold i3r at h; exact h)
  have hu := hr.units
  have hs : sizeLine = 16777216 := sizeLine_eq
  have g7b : a2q 4 _ := hr.mono (by decide)
  have h6t : a2q 2 _ := hr.mono (by decide)
  have bsl := Bk.1
  refine ⟨_, (a0i (a1j (i := 3) b2r.nd rfl (Or.inl rfl) (c8z a0j))
   (a0i (b0r PassesOwn.never rfl (a5n (pvF 1)) (a5g (i := 4) b2r.nd rfl (Or.inl rfl))
   (a0i (a1j (i := 5) b2r.nd rfl (Or.inl rfl) (a2k a4w (by rfl) T.b3j boot_list (a0g (pvF 4) a0j)))
   (a0i (a1j (i := 6) b2r.nd rfl (Or.inr rfl) (a8y (pvF 0) T.a6i T.g6u h2u g7b T.c5g .nil a0p (a0g (pvF 5) (a0g (pvF 2) a0j))))
   (a0i (a6k (c0i (a7j (a0r i4h h6t (by rfl) T.i3a T.b6t.kp T.d3w .nil a0p (a0g (pvF 6) (a0g (pvF 4) a0j)))))
   (a0l (a1k h0g))
   a2m)
   (a0i (a1j (i := 3) b2r.nd rfl (Or.inl rfl) (a1i a2g (pvF 3) (c4i (a5n (a1o a3q (pvF 6) a0k (fun _ _ => rfl))) (fun _ _ _ _ _ => (a8w (a0g (pvF 0) (a0g (a1o a3q (pvF 7) a0k (fun _ _ => rfl)) a0j)))) (f5m (sc := a0h a8o) (N := ["_law_chain", "_law_blocks", "_law_bottom", "_law_joined_here", "_law_block", "_law_handed", "_law_told"]) rfl rfl (by decide +kernel)) rfl)))
   (a0i (b0q (b5q b5p PySem.F.plainAttrs_list PySem.F.slot_list_insert PySem.F.type_list_insert i0k (a1o a3q (pvF 6) a0k (fun _ _ => rfl)) (a0g a0k (a0g a0k a0j))))
   (a0i (a6k (a2l (c7p hu) (pvF 5) (pvF 4) (a2v _))
   (a0l (a1k h0g))
   a2m)
   (a0i (b0q (b5q b5p PySem.F.plainAttrs_list PySem.F.slot_list_insert PySem.F.type_list_insert i0k (pvF 5) (a0g a0k (a0g a0k a0j))))
   (a0l (a6k (a2l (c7p hu) (a5m j7d (a1o a3q (pvF 6) a0k (fun _ _ => rfl)) (a3y a0k) b2z) (c4i (a5n (a5m j7d (pvF 3) (a3y (a1i d0t (a1p a2r (by rfl) T.b3i boot_len (a0g (pvF 3) a0j)) (a1p a2r (by rfl) T.b3i boot_len (a0g (pvF 4) a0j)))) b2z)) (fun _ _ _ _ _ => (a1o a3q (pvF 0) a0k (fun _ _ => rfl))) (f5m (sc := a0h a8o) (N := ["_law_chain", "_law_blocks", "_law_bottom", "_law_joined_here", "_law_block", "_law_handed", "_law_told"]) rfl rfl (by decide +kernel)) rfl) (a2v _))
   (a0l (a1k h0g))
   a2m))))))))))
   (a0l (a1k (pvF 3))))), ?_⟩
  walk_at "rd*"
  refine fun J0 H1 n1 S1 h1 => ?_
  have hL1 := S1 _ _ hL
  walk_at "rd*"
  refine ⟨⟨_, SqL.of hL1⟩, ?_⟩
  have ho0 : ∃ u, H o = some u := by
   obtain ⟨dx, os, sts, ho, _⟩ := hC
   exact ⟨_, ho⟩
  have nLo : L ≠ o := fun e => by
   obtain ⟨dx, os, sts, ho, _⟩ := hC
   rw [e, ho] at hL
   cases hL
  obtain ⟨Pv, pin, pout⟩ := f5n (fun i σ H' => ∃ (J sl' : Addr) (ps : List Addr) (v4 v5 v6 : Option V), σ = [some (.ref o), some (.ref L), some (.int b), some (.ref J), v4, v5, v6] /\ a6j o H H' /\ ChP A H' o pl sl' b ds (bk.take i).flatten /\ H' J = some (.lst (ps.map V.ref)) /\ i9b H' ps (g1t ds b (bk.take i).flatten) (g2x b ds))
  refine b5n (xs := bs.map V.ref) Pv (pin _ _ _ ⟨J0, sl, [], _, _, _, rfl, fun z u _ e => S1 _ _ e, hC.same S1, h1, ⟨by rw [List.take_zero, f4g]; rfl, fun i p z e => by simp at e⟩⟩) ?_ ?_ ?_
  ·intro i σ H2 hi hp
   obtain ⟨J, sl', ps, v4, v5, v6, rfl, S2, _⟩ := pout _ _ _ hp
   exact SqL.of (S2 _ _ nLo hL)
  ·intro i v σ H2 hv hp
   obtain ⟨J, sl', ps, v4, v5, v6, rfl, S2, C2, hJ, P2⟩ := pout _ _ _ hp
   rw [List.getElem?_map] at hv
   obtain ⟨p, hpi, rfl⟩ := Option.map_eq_some_iff.mp hv
   have hi := (List.getElem?_eq_some_iff.mp hpi).1
   obtain ⟨x, hx⟩ : ∃ x, bk[i]? = some x := ⟨_, List.getElem?_eq_getElem (by omega)⟩
   have hp0 := Bk.2 i p x hpi hx
   have npo : p ≠ o := fun e => by
    obtain ⟨dx, os, sts, ho, _⟩ := hC
    rw [e, ho] at hp0
    cases hp0
   have hp2 := S2 _ _ npo hp0
   have et : (bk.take (i + 1)).flatten = (bk.take i).flatten ++ x := by rw [List.take_add_one, hx, List.flatten_append]; simp
   have sub : ∀ y ∈ (bk.take i).flatten ++ x, y ∈ bk.flatten := fun y hy => by
    rw [<- et] at hy
    obtain ⟨z, hz, hyz⟩ := List.mem_flatten.mp hy
    exact List.mem_flatten.mpr ⟨z, List.mem_of_mem_take hz, hyz⟩
   have len : (bk.take i).flatten.length + x.length <= 100 := by
    have e1 : bk.flatten = (bk.take (i + 1)).flatten ++ (bk.drop (i + 1)).flatten := by rw [<- List.flatten_append, List.take_append_drop]
    rw [e1, et, List.length_append, List.length_append] at fl
    omega
   obtain ⟨a, ea⟩ : ∃ a, (bk.take i).flatten = a := ⟨_, rfl⟩
   rw [ea] at C2 P2 sub len et
   have psl := P2.1
   rw [f4g] at psl
   clear hv hp h1 hL1
   walk_at "rd*"
   refine fun l5 H3 n3 S3 h3 => ?_
   have C3 := C2.same S3
   obtain ⟨dx3, os3, sts3, ho3, _⟩ := id C3
   unfold chF at ho3
   walk_at "rd*"
   refine ⟨pl, sl', ds, a, C3, x, rfl, l8, ok, by omega, by omega, (fun y hy => hb y (sub y hy)), fun r lo sl2 H4 B4 nr nlo nsl sne hr4 l6p C4 => ?_⟩
   obtain ⟨_, os2, _, _, _, _, R2, _⟩ := id C2
   obtain ⟨gb, g1⟩ := c1h R2 ok b1 bb
   have zl := i4c ds b a x
   have er := h0d ds b a x
   generalize g2x b ds = G at hr4 P2 g1 gb pin ⊢
   obtain ⟨zs, ez⟩ : ∃ zs, l6n ds b a x = zs := ⟨_, rfl⟩
   rw [ez] at l6p zl er
   have hp3 := S3 _ _ hp2
   have hp4 := B4 _ _ npo hp3
   have liv : ∀ {z : Addr} {u : HO}, H3 z = some u -> z ≠ lo := fun e q => by rw [q, nlo] at e; cases e
   have ins : ∀ {z : Addr} {ys : List V}, H3 z = some (.lst ys) -> z ≠ o := fun e q => by rw [q, ho3] at e; cases e
   have h34 := B4 _ _ (ins h3) h3
   have hJ3 := S3 _ _ hJ
   have hJ4 := B4 _ _ (ins hJ3) hJ3
   have P4 : i9b H4 ps (g1t ds b a) G := (P2.same S3).put (fun ts e => by rw [ho3] at e; cases e) B4
   clear hp2 hp3 hJ P2
   refine ⟨lo, G, hr4, zs, l6p, x, hp4, by omega, g1, by omega, ?_⟩
   walk_at "rd*"
   refine ⟨⟨_, SqL.of l6p⟩, fun D H5 n5 S5 h5 => ?_⟩
   refine b7k (xs := zs.map V.int) (fun i ys H' => Same H4 H' /\ H' D = some (.lst ys) /\ ∃ p2 : List Addr, ys = p2.map V.ref /\ i9b H' p2 (zs.take i) G) ⟨S5, h5, [], rfl, rfl, fun i p z e => by simp at e⟩ (by rw [List.length_map]; omega) ?_ ?_ ?_
   ·intro i ys H' hi ⟨S', h', p2, e, R'⟩
    rw [List.length_map] at hi
    exact ⟨h', SqL.of (S' _ _ l6p), by rw [e, List.length_map, R'.1, List.length_take]; omega⟩
   ·intro i v ys H' hv ⟨S', h', p2, e, R'⟩
    rw [List.getElem?_map] at hv
    obtain ⟨z, hz, rfl⟩ := Option.map_eq_some_iff.mp hv
    have hr' := S' _ _ hr4
    clear hv h5 l6p hr4 h34 hJ4 hp4
    walk_at "rd*"
    refine fun q6 H6 n6 S6 h6 => ⟨S6 _ _ h', fun H7 B7 h7 => ⟨(S'.trans S6).step n5 B7, h7, p2 ++ [q6], (by rw [e, List.map_append]; rfl), ?_⟩⟩
    rw [List.take_add_one, hz]
    exact ((R'.same S6).app (show i9b H6 [q6] [z] G from ⟨rfl, fun j p w e1 e2 => by
     match j, e1, e2 with
     | 0, e1, e2 => cases e1; cases e2; exact h6⟩)).put (fun ts e => by rw [S6 _ _ h'] at e; cases e) B7
   intro ys H6 ⟨S6, h6, p2, e, R6⟩
   rw [List.length_map, List.take_length] at R6
   subst e
   have p2l := R6.1
   have hJ6 := S6 _ _ hJ4
   walk_at "rd*"
   refine ⟨by omega, fun J2 H7 n7 S7 h7 => ?_⟩
   rw [<- List.map_append] at h7
   have S47 := S6.trans S7
   have hr7 := S47 _ _ hr4
   have m9l := S47 _ _ l6p
   have m4b := l6p
   have h34' := h34
   clear h5 h6 hJ6 hJ4 hr4 l6p
   walk_at "rd*"
   refine ⟨by omega, ?_⟩
   rintro _ H8 ⟨rfl, B8, h8⟩
   have n5b : l5 ≠ lo := liv h3
   have nplo : p ≠ lo := fun q => by rw [q] at hp4; exact liv (z := p) (S3 _ _ (S2 _ _ npo hp0)) q
   have h38 := B8 _ _ n5b (S47 _ _ h34)
   have hp8 := B8 _ _ nplo (S47 _ _ hp4)
   have hr8 := B8 _ _ (fun q => by rw [q, m9l] at hr7; cases hr7) hr7
   clear m9l hr7 h34 hp4
   walk_at "rd*"
   refine k4c (SqL.of h38) (SqL.of hp8) ?_
   rw [decide_eq_true rfl]
   walk_at "rd*"
   refine ⟨by omega, ?_⟩
   rintro _ H9 ⟨rfl, B9, h9⟩
   have m9m : J2 ≠ lo := fun q => by rw [q, S6 _ _ m4b] at n7; cases n7
   have m9n : J2 ≠ l5 := fun q => by rw [q, S6 _ _ h34'] at n7; cases n7
   have h79 := B9 _ _ m9n (B8 _ _ m9m h7)
   have h89 := B9 _ _ (Ne.symm n5b) h8
   have np5 : p ≠ l5 := fun q => by rw [<- q, S2 _ _ npo hp0] at n3; cases n3
   have hp9 := B9 _ _ np5 hp8
   have hr9 := B9 _ _ (fun q => by rw [q, h38] at hr8; cases hr8) hr8
   have n3h := h38
   clear h38 hp8 hr8 h8
   walk_at "rd*"
   refine fun l10 H10 n10 S10 h10 => ?_
   have e10 : g5j (List.take 0 (List.map V.int zs) ++ V.int 5 :: List.drop 0 (List.map V.int zs)) (some 1) none = zs.map V.int := by
    show g6o (V.int 5 :: zs.map V.int) (some ((1 : Nat) : Int)) none = _
    rw [a5v]
    rfl
   rw [e10] at h10
   have n5c := S10 _ _ h79
   have n5d := S10 _ _ hp9
   clear e10 h79 hp9 hr9
   walk_at "rd*"
   refine fun l11 H11 n11 S11 h11 => ?_
   have e11 : g5j ((ps ++ p2).map V.ref) (some (ps.length : Int)) none = p2.map V.ref := by
    show g6o ((ps ++ p2).map V.ref) (some ((ps.length : Nat) : Int)) none = _
    rw [a5v, List.map_append, List.drop_append_of_le_length (by rw [List.length_map]; exact Nat.le_refl _), List.drop_of_length_le (by rw [List.length_map]; exact Nat.le_refl _)]
    rfl
   rw [show (((a.length + x.length : Nat) : Int) - (x.length : Int)) = (ps.length : Int) by omega, e11] at h11
   have R9 : i9b H9 p2 zs G := ((R6.same S7).put (fun ts e => by rw [S47 _ _ m4b] at e; cases e) B8).put (fun ts e => by rw [n3h] at e; cases e) B9
   have R11 := (R9.same S10).same S11
   clear e11
   walk_at "rd*"
   refine ⟨⟨_, SqL.of h11⟩, fun D2 H12 n12 S12 h12 => ?_⟩
   refine i2h (zs.map V.int) (by rw [List.length_map, List.length_map, p2l]) n12 S12 h12 (SqL.of h11) (by rw [List.length_map]; omega) ?_ ?_
   ·intro k v z H' Q' hv hz S' q'
    rw [List.getElem?_map] at hv hz
    obtain ⟨pk, hpk, rfl⟩ := Option.map_eq_some_iff.mp hv
    obtain ⟨w', hw, rfl⟩ := Option.map_eq_some_iff.mp hz
    have hpk' := S' _ _ (R11.2 k pk w' hpk hw)
    clear hv hz h12 h11 h10 n5c n5d
    walk_at "rd*"
   intro H13 S13 h13
   have n0o := S10.trans (S11.trans S13)
   have n3i := S13 _ _ (S11 _ _ h10)
   clear h12 h11 h10 n5c n5d
   walk_at "rd*"
   refine k4c (SqL.of n3i) (SqL.of h13) ?_
   rw [decide_eq_true rfl]
   walk_at "rd*"
   have m9l := S47 _ _ m4b
   have n25 : ∀ {z : Addr} {u : HO}, H2 z = some u -> z ≠ l5 := fun e q => by rw [q, n3] at e; cases e
   have pl2 : ∃ u, H2 pl = some u := by
    obtain ⟨_, _, _, _, z, _⟩ := C2
    exact ⟨_, z⟩
   obtain ⟨upl, m3v⟩ := pl2
   have C9 := ((C4.same S47).other m9l (liv (S3 _ _ m3v)) sne B8).other n3h (n25 m3v) (fun q => by rw [q, h3] at nsl; cases nsl) B9
   have P9 : i9b H9 ps (g1t ds b a) G := ((P4.same S47).put (fun ts e => by rw [m9l] at e; cases e) B8).put (fun ts e => by rw [n3h] at e; cases e) B9
   refine pin _ _ _ ⟨J2, sl2, ps ++ p2, _, _, _, rfl, fun z u hz e => ?_, by rw [et]; exact C9.same n0o, n0o _ _ (B9 _ _ m9n (B8 _ _ m9m h7)), by rw [et, er]; exact (P9.app R9).same n0o⟩
   have e2 := S2 _ _ hz e
   exact n0o _ _ (B9 _ _ (n25 e2) (B8 _ _ (liv (S3 _ _ e2)) (S47 _ _ (B4 _ _ hz (S3 _ _ e2)))))
  ·intro σ H2 hp
   obtain ⟨J, sl', ps, v4, v5, v6, rfl, S2, C2, hJ, P2⟩ := pout _ _ _ hp
   rw [List.length_map, bsl, List.take_length] at C2 P2
   walk_at "rd*"
   exact q J ps sl' H2 S2 C2 hJ P2
theorem ChP.m0y {A : Ad} {D : Addr} {H H' : Hp} {o pl sl : Addr} {b : Int} {ds : List (Dt × Int × List Rat)} {xs : List Int} {c dx p s : Addr} (h : ChP A H o pl sl b ds xs) (hD : H D = some (.ins c dx (chF p s))) (no : o ≠ D) (B : a6j D H H') : ChP A H' o pl sl b ds xs := by
 obtain ⟨dx, os, sts, h1, h2, h3, h4, h5⟩ := h
 have L := Lk.ins hD (.inr (.inr ⟨_, _, rfl⟩))
 exact ⟨dx, os, sts, B _ _ no h1, B _ _ (fun q => by rw [q, hD] at h2; cases h2) h2, B _ _ (fun q => by rw [q, hD] at h3; cases h3) h3, h4.d4k L B, h5.d4k L B⟩
theorem j2c {A : Ad} {H H' : Hp} {os os' : List Addr} {ds : List Dt} {xs xs' : List (Dt × Int × List Rat)} {b : Int} {row : List Int} (R : h0a A H os xs) (R' : h0a A H' os' xs') (e : xs.map (·.1) = ds) (e' : xs'.map (·.1) = ds) (ok : ∀ d ∈ ds, d.ok /\ Dt.few d) (dl : ds.length <= 8) (b1 : 1 <= b) (bb : intBits b <= 64) (rl : row.length <= 63) (rb : ∀ z ∈ row, intBits z <= 64) :
  Crs (g2x b xs) (g2x b xs') (g1t xs b row) (g1t xs' b row) /\ (g1t xs b row).length <= 100 /\ intBits (g2x b xs) <= 9000 /\ intBits (g2x b xs') <= 9000 /\ (∀ z ∈ g1t xs b row, intBits z <= 100000) /\ (∀ z ∈ g1t xs' b row, intBits z <= 100000) := by
 have okx : ∀ x ∈ xs, x.1.ok /\ Dt.few x.1 := fun x hx => ok _ (by rw [<- e]; exact List.mem_map_of_mem hx)
 have n5e : ∀ x ∈ xs', x.1.ok /\ Dt.few x.1 := fun x hx => ok _ (by rw [<- e']; exact List.mem_map_of_mem hx)
 have l1 : xs.length <= 8 := by rw [<- e, List.length_map] at dl; exact dl
 have l2 : xs'.length <= 8 := by rw [<- e', List.length_map] at dl; exact dl
 have g1 := (c1h R okx b1 bb).1
 have g2 := (c1h R' n5e b1 bb).1
 refine ⟨i1i xs xs' os os' (e.trans e'.symm) (fun x hx => (okx x hx).1) R.2 R'.2 R.1 R'.1 (by omega) (by omega) ⟨rfl, fun i => rfl⟩, by rw [f4g]; omega, by omega, by omega, fun z hz => ?_, fun z hz => ?_⟩
 ·exact Nat.le_trans (f0n R (fun x hx => (okx x hx).1) b1 (by decide) (by omega) rb z hz) (by omega)
 ·exact Nat.le_trans (f0n R' (fun x hx => (n5e x hx).1) b1 (by decide) (by omega) rb z hz) (by omega)
theorem m9o (T : Tx K mg A) : a1s P A.wd K mg base CX0 14 A.j7u A.l3l ["_law_script"] (j7b 63 K) := by
 have d4o : a1s P A.wd K mg base CX0 1 _ _ _ _ := m3x T
 have k7x : a1s P A.wd K mg base CX0 4 _ _ _ _ := l9b T
 have k7y : a1s P A.wd K mg base CX0 1 _ _ _ _ := l8z T
 have k7z : a1s P A.wd K mg base CX0 1 _ _ _ _ := m4a T
 have l5w : a1s P A.wd K mg base CX0 9 _ _ _ _ := m9k T
 have c1u : a1s P A.wd K mg base CX0 10 _ _ _ _ := l9f T
 have g5v : a1s P A.wd K mg base CX0 5 _ _ _ _ := l5v T
 have i1j : a1s P A.wd K mg base CX0 1 _ _ _ _ := l9c T
 have g5w : a1s P A.wd K mg base CX0 10 _ _ _ _ := l8w T
 have a6i := T.a6i
 have a2j := T.a2j
 have a1w := T.a1w
 refine T.l8d.ok d7h (fun vs H Q E h => ?_) (fun cdv A' outer s H vs Q E hr h => ?_)
 ·obtain ⟨a, ns, rfl, _⟩ := h
  rfl
 ·obtain ⟨a, ns, rfl, hS, hl, hbit, hO, q⟩ := h
  have hu := hr.units
  have d0g : a2q 1 _ := hr.mono (by decide)
  have j9o : a2q 4 _ := hr.mono (by decide)
  have j9p : a2q 1 _ := hr.mono (by decide)
  have j9q : a2q 1 _ := hr.mono (by decide)
  have k8a : a2q 9 _ := hr.mono (by decide)
  have b9i : a2q 10 _ := hr.mono (by decide)
  have g1c : a2q 5 _ := hr.mono (by decide)
  have h2v : a2q 1 _ := hr.mono (by decide)
  have g1d : a2q 11 _ := hr.mono (by decide)
  have hs : sizeLine = 16777216 := sizeLine_eq
  have bc : ∀ k : Nat, intBits (ns.getD k 0) <= 1100000 := fun k => Nat.le_trans (l2n hbit k) (by decide)
  refine ⟨_, (b5o (a1j (i := 1) d7h.nd rfl (Or.inr rfl) (a1i a7o (a1i a3l (a0r d4o d0g (by rfl) T.d3v T.a9o.kp T.b6s .nil a0p (a0g (pvF 0) (a0g a0k a0j))) a0k) a0k))
   (a0i (a1j (i := 2) d7h.nd rfl (Or.inl rfl) (a1i a7o (pvF 1) a0k))
   (b5o (a6k (a2l (c4h hu) (a1i a7o (a1i a4n (pvF 1) a0k) a0k) a0k (a2v _))
   (a0l (a1j (i := 2) d7h.nd rfl (Or.inl rfl) a0k))
   a2m)
   (b5o (i2e (i := 3) d7h.nd rfl rfl (b7j (by rfl) T.c1r (a0g (pvF 2) a0j)) (fun _ _ _ _ _ => (a0r k7x j9o (by rfl) T.k6s T.d1y.kp T.g2r .nil a0p (a0g (a0r d4o d0g (by rfl) T.d3v T.a9o.kp T.b6s .nil a0p (a0g (pvF 1) (a0g (a1i a2g a0k (pvF 0)) a0j))) (a0g (h0i (m2f (K := K) (by rfl) (by exact hu)) (a1i a7o (a1i a4n (pvF 2) a0k) a0k) a0k (a2v _)) a0j)))) (f5m (sc := a0h j0e) (N := ["_law_script", "_law_head", "_law_many", "_law_words", "_law_row", "_law_bottom", "_law_blocks", "_law_given_words", "_law_one", "_law_other", "_law_due_here"]) rfl rfl (by decide +kernel)) rfl)
   (b5o (i2e (i := 4) d7h.nd rfl rfl (a5n (a5m m7d (pvF 0) (a3y a0k) (a3y a0k))) (fun _ _ _ _ _ => (a0r k7y j9p (by rfl) T.k6t T.d1z.kp T.g2s .nil a0p (a0g (pvF 0) a0j))) (f5m (sc := a0h j0e) (N := ["_law_script", "_law_head", "_law_many", "_law_words", "_law_row", "_law_bottom", "_law_blocks", "_law_given_words", "_law_one", "_law_other", "_law_due_here"]) rfl rfl (by decide +kernel)) rfl)
   (b5o (a1j (i := 5) d7h.nd rfl (Or.inl rfl) (a1i a2g a0k (a1i a7o (a0r d4o d0g (by rfl) T.d3v T.a9o.kp T.b6s .nil a0p (a0g (pvF 0) (a0g a0k a0j))) a0k)))
   (b5o (a1j (i := 6) d7h.nd rfl (Or.inl rfl) (a0r k7z j9q (by rfl) T.k6u T.d2g.kp T.g2t .nil a0p (a0g (pvF 4) (a0g (a5m m7d (pvF 0) (a3y a0k) (a3y a0k)) a0j))))
   (a0i (a1j (i := 7) d7h.nd rfl (Or.inl rfl) (a2k a4w (by rfl) T.b3j boot_list (a0g (pvF 3) a0j)))
   (a0i (a1j (i := 8) d7h.nd rfl (Or.inl rfl) (c7q T.l3s g5w g1d (by rfl) T.f3u T.c8n .nil a0p (a0g (pvF 7) a0j)))
   (a0i (b0q (b5q b5p PySem.F.plainAttrs_list PySem.F.slot_list_append PySem.F.type_list_append b1z (pvF 7) (a0g a3w a0j)))
   (a0i (a1j (i := 9) d7h.nd rfl (Or.inl rfl) (c7q T.l3s g5w g1d (by rfl) T.f3u T.c8n .nil a0p (a0g (a2k a4w (by rfl) T.b3j boot_list (a0g (pvF 3) a0j)) a0j)))
   (a0i (a1j (i := 10) d7h.nd rfl (Or.inl rfl) (a0r l5w k8a (by rfl) T.l3q T.d9w.kp T.h1t .nil a0p (a0g (pvF 3) (a0g (pvF 4) (a0g (pvF 5) a0j)))))
   (a0i (a6k (pw_or (c0i (a7j (a0r c1u b9i (by rfl) T.c1q T.a5j.kp T.b0i .nil a0p (a0g (pvF 9) (a0g (pvF 3) a0j))))) (pw_or1 (c0i (a7j (a0r i1j h2v (by rfl) T.i0r T.c3z.kp T.f3t .nil a0p (a0g (a0r g5v g1c (by rfl) T.g5r T.b5h.kp T.c8o .nil a0p (a0g (pvF 8) (a0g (pvF 6) (a0g (pvF 5) a0j)))) (a0g (pvF 10) a0j))))))).pt
   (a0l (a1k h0f))
   a2m)
   (a0i (a6k (c0i (a7j (a0r i1j h2v (by rfl) T.i0r T.c3z.kp T.f3t .nil a0p (a0g (a0r g5v g1c (by rfl) T.g5r T.b5h.kp T.c8o .nil a0p (a0g (pvF 9) (a0g (c8z (a0g (pvF 4) a0j)) (a0g (pvF 5) a0j)))) (a0g (pvF 10) a0j)))))
   (a0l (a1k h0f))
   a2m)
   (a0l (a1k (h0t (a0r c1u b9i (by rfl) T.c1q T.a5j.kp T.b0i .nil a0p (a0g (pvF 8) (a0g (pvF 3) a0j))) (k3x (a0r c1u b9i (by rfl) T.c1q T.a5j.kp T.b0i .nil a0p (a0g (pvF 9) (a0g (pvF 3) a0j))))))))))))))))))))), ?_⟩
  obtain ⟨Mid0, in0, out0⟩ := l1f (fun σ' H' => ∃ hd : Int, σ' = [some (.ref a), some (.int hd), none, none, none, none, none, none, none, none, none] /\ H' = H)
  refine ⟨Mid0, ?_, ?_⟩
  ·walk_at "rd"
   exact ⟨ns, hS, IntMulOk.of_right (by decide), in0 _ _ ⟨_, rfl, rfl⟩⟩
  intro σ0 H0 hm0
  obtain ⟨hd, rfl, rfl⟩ := out0 _ _ hm0
  clear hm0 in0 out0
  have f9 := b5k hd (b := 9) (by decide)
  walk_at "rd"
  obtain ⟨Mid1, in1, out1⟩ := l1f (fun σ' H' => ∃ mn : Nat, σ' = [some (.ref a), some (.int hd), some (.int mn), none, none, none, none, none, none, none, none] /\ H' = H0 /\ mn <= 8)
  refine ⟨Mid1, ?_, ?_⟩
  ·walk_at "rd"
   refine ⟨⟨by decide, by decide⟩, ?_⟩
   split
   ·exact in1 _ _ ⟨8, rfl, rfl, Nat.le_refl _⟩
   ·exact in1 _ _ ⟨(hd.fmod 9).toNat, by rw [Int.toNat_of_nonneg f9.1], rfl, by omega⟩
  intro σ1 H1 hm1
  obtain ⟨mn, rfl, rfl, mn8⟩ := out1 _ _ hm1
  clear hm1 in1 out1 f9
  obtain ⟨Mid2, in2, out2⟩ := l1f (fun σ' H' => ∃ (lw : Addr) (ds : List Dt), σ' = [some (.ref a), some (.int hd), some (.int mn), some (.ref lw), none, none, none, none, none, none, none] /\ Same H1 H' /\ H' lw = some (.lst (ds.map fun d => V.str d.word)) /\ ds.length <= 8 /\ (∀ d ∈ ds, d.ok /\ Dt.few d))
  refine ⟨Mid2, ?_, ?_⟩
  ·walk_at "rd"
   refine ⟨by omega, by omega, fun D H2 n2 S2 h2 => ?_⟩
   rw [Int.toNat_natCast]
   refine h0v (fun i ys H' => Same H1 H' /\ H' D = some (.lst ys) /\ ∃ ds : List Dt, ys = ds.map (fun d => V.str d.word) /\ ds.length = i /\ ∀ d ∈ ds, d.ok /\ Dt.few d) ⟨S2, h2, [], rfl, rfl, fun d hd => by cases hd⟩ (by omega) ?_ ?_ ?_
   ·intro i ys H' hi ⟨S', h', ds, e, el, ok⟩
    exact ⟨h', by rw [e, List.length_map, el]⟩
   ·intro i ys H' hi ⟨S', h', ds, e, el, ok⟩
    walk_at "rd"
    refine ⟨ns, S'.seq hS, by omega, ⟨by decide, by decide⟩, bc _, fun d H3 o1 o2 S3 => ⟨S3 _ _ h', fun H4 B4 h4 => ⟨(S'.trans S3).step n2 B4, h4, ds ++ [d], by rw [e, List.map_append]; rfl, by rw [List.length_append, el]; rfl, fun d' hd' => ?_⟩⟩⟩
    rcases List.mem_append.mp hd' with h | h
    ·exact ok d' h
    ·obtain rfl := List.mem_singleton.mp h
     exact ⟨o1, o2⟩
   ·intro ys H3 ⟨S3, h3, ds, e, el, ok⟩
    subst e
    try walk_at "rd"
    exact in2 _ _ ⟨D, ds, rfl, S3, h3, by omega, ok⟩
  intro σ2 H2 hm2
  obtain ⟨lw, ds, rfl, S2, hlw, dl, ok⟩ := out2 _ _ hm2
  clear hm2 in2 out2
  have hS2 := S2.seq hS
  obtain ⟨Mid4, in4, out4⟩ := l1f (fun σ' H' => ∃ (D : Addr) (row : List Int), σ' = [some (.ref a), some (.int hd), some (.int mn), some (.ref lw), some (.ref D), none, none, none, none, none, none] /\ Same H2 H' /\ H' D = some (.lst (row.map V.int)) /\ row.length <= 63 /\ (∀ z ∈ row, intBits z <= 64))
  refine ⟨Mid4, ?_, ?_⟩
  ·walk_at "rd"
   refine ⟨_, hS2, fun p9 H9 n9 S9 h9 => ?_⟩
   rw [c0m] at h9
   have hmem : ∀ x ∈ g6o ns (some 10) (some 73), intBits x <= 1100000 := fun x hx => Nat.le_trans (hbit x (k4d hx)) (by decide)
   have ml := k4e ns (some 10) (some 73)
   generalize g6o ns (some 10) (some 73) = ms at h9 hmem ml
   walk_at "rd"
   refine ⟨⟨_, SqL.of h9⟩, fun D H10 n10 S10 h10 => ?_⟩
   refine i9v (fun v => match v with | .int c => .int (l6o c) | v => v) n10 S10 h10 (SqL.of h9) (by rw [List.length_map, sizeLine_eq]; omega) ?_ ?_
   ·intro i x H' Q' hx S' q'
    rw [List.getElem?_map] at hx
    obtain ⟨c, hc, rfl⟩ := Option.map_eq_some_iff.mp hx
    have bx := hmem c (List.mem_of_getElem? hc)
    try walk_at "rd"
    exact ⟨bx, q'⟩
   intro H11 S11 h11
   have e11 : (ms.map V.int).map (fun v : V => match v with | .int c => V.int (l6o c) | v => v) = (ms.map l6o).map V.int := by
    rw [List.map_map, List.map_map]
    rfl
   rw [e11] at h11
   have tb : ∀ x ∈ ms.map l6o, intBits x <= 64 := fun x hx => by
    obtain ⟨c, _, rfl⟩ := List.mem_map.mp hx
    have := l8y c
    exact intBits_le_64 (by omega) (by omega)
   try walk_at "rd"
   exact in4 _ _ ⟨D, ms.map l6o, rfl, S9.trans S11, h11, by rw [List.length_map]; omega, tb⟩
  intro σ4 H4 hm4
  obtain ⟨lr, row, rfl, S4, hlr, rl, rb⟩ := out4 _ _ hm4
  clear hm4 in4 out4
  have hS4 := S4.seq hS2
  have n5f := S4 _ _ hlw
  have fb := b5k (ns.getD 1 0) (b := 9) (by decide)
  obtain ⟨Mid5, in5, out5⟩ := l1f (fun σ' H' => ∃ b : Int, σ' = [some (.ref a), some (.int hd), some (.int mn), some (.ref lw), some (.ref lr), some (.int b), none, none, none, none, none] /\ H4 = H' /\ 1 <= b /\ intBits b <= 64)
  refine ⟨Mid5, ?_, ?_⟩
  ·walk_at "rd"
   exact ⟨ns, hS4, in5 _ _ ⟨_, rfl, rfl, by omega, intBits_le_64 (by omega) (by omega)⟩⟩
  intro σ5 H5 hm5
  obtain ⟨b, rfl, rfl, b1, bb⟩ := out5 _ _ hm5
  clear hm5 in5 out5 fb hlw
  obtain ⟨Mid6, in6, out6⟩ := l1f (fun σ' H' => ∃ (L : Addr) (bs : List Addr) (bk : List (List Int)), σ' = [some (.ref a), some (.int hd), some (.int mn), some (.ref lw), some (.ref lr), some (.int b), some (.ref L), none, none, none, none] /\ Same H4 H' /\ H' L = some (.lst (bs.map V.ref)) /\ Bks H' bs bk /\ bk.flatten = row /\ bk.length <= 71)
  refine ⟨Mid6, ?_, ?_⟩
  ·walk_at "rd"
   refine ⟨_, hS4, fun p9 H9 n9 S9 h9 => ?_⟩
   rw [c0m] at h9
   have hmem : ∀ x ∈ g6o ns (some 10) (some 22), intBits x <= 1100000 := fun x hx => Nat.le_trans (hbit x (k4d hx)) (by decide)
   have ml := k4e ns (some 10) (some 22)
   generalize g6o ns (some 10) (some 22) = ms at h9 hmem ml
   try walk_at "rd"
   exact ⟨row, S9 _ _ hlr, ms, h9, by omega, by omega, hmem, fun L bs bk H10 nL S10 hL Bk fl bl => in6 _ _ ⟨L, bs, bk, rfl, S9.trans S10, hL, Bk, fl, bl⟩⟩
  intro σ6 H6 hm6
  obtain ⟨L, bs, bk, rfl, S6, hL, Bk, fl, bl⟩ := out6 _ _ hm6
  clear hm6 in6 out6 hS4 hS2
  have n5g := S6 _ _ n5f
  have n5h := S6 _ _ hlr
  clear n5f hlr
  walk_at "rd*"
  refine fun l7 H7 n7 S7 h7 => ?_
  have ok1 : ∀ d ∈ ds, d.ok := fun d hd => (ok d hd).1
  walk_at "rd"
  intro c1 cx1 H8 n8 n8' nx8 S8 hdx8 hc8
  refine ⟨cx1, ds, hc8, S8 _ _ h7, dl, ok1, fun H9 xs1 B9 ex1 hx1 => ?_⟩
  rw [asNew]
  refine ⟨rfl, ?_⟩
  obtain ⟨pl1, sl1, np1, ns1, C1⟩ := hx1
  have S79 : Same H7 H9 := fun z u e => B9 _ _ (fun ze => by rw [ze] at e; rw [e] at n8; cases n8) (S8 _ _ e)
  have h79 := S79 _ _ h7
  have h78 := S8 _ _ h7
  walk_at "rd*"
  refine ⟨by omega, ?_⟩
  rintro _ H10 ⟨rfl, B10, h10⟩
  have n5i : Same H6 H10 := (S7.trans S79).step n7 B10
  have C1' : ∀ b, ChP A H10 c1 pl1 sl1 b xs1 [] := fun b => (C1 b).other h79 (fun e => by rw [e, h78] at np1; cases np1) (fun e => by rw [e, h78] at ns1; cases ns1) B10
  have m4c := n5i _ _ n5g
  clear h7 h79 h78 C1 hc8 h10 n5g
  walk_at "rd*"
  refine fun l11 H11 n11 S11 h11 => ?_
  walk_at "rd"
  intro c2 cx2 H12 n12 n12' nx12 S12 hdx12 hc12
  refine ⟨cx2, ds, hc12, S12 _ _ h11, dl, ok1, fun H13 xs2 B13 ex2 hx2 => ?_⟩
  rw [asNew]
  refine ⟨rfl, ?_⟩
  obtain ⟨pl2, sl2, np2, ns2, C2⟩ := hx2
  have l9g : Same H10 H13 := S11.trans fun z u e => B13 _ _ (fun ze => by rw [ze] at e; rw [e] at n12; cases n12) (S12 _ _ e)
  have n5j := n5i.trans l9g
  have C13 := (C1' b).same l9g
  have c12 : c1 ≠ c2 := fun e => by
   obtain ⟨_, _, _, z, _⟩ := (C1' b).same S11
   rw [e, n12] at z
   cases z
  clear h11 hc12 C1'
  walk_at "rd"
  refine ⟨ds, l9g _ _ m4c, row, n5j _ _ n5h, dl, ok, by omega, b1, bb, rb, fun r lo os3 xs3 H14 S14 ex3 R3 hr14 hlo14 => ?_⟩
  have S614 := n5j.trans S14
  have m4d := S14 _ _ (l9g _ _ m4c)
  have C14 := C13.same S14
  have D14 := (C2 b).same S14
  have n5k : ∀ x ∈ xs1, x.1.ok /\ Dt.few x.1 := fun x hx => ok _ (by rw [<- ex1]; exact List.mem_map_of_mem hx)
  have n3j : ∀ x ∈ xs2, x.1.ok /\ Dt.few x.1 := fun x hx => ok _ (by rw [<- ex2]; exact List.mem_map_of_mem hx)
  have xl1 : xs1.length <= 8 := by rw [<- ex1, List.length_map] at dl; exact dl
  have xl2 : xs2.length <= 8 := by rw [<- ex2, List.length_map] at dl; exact dl
  clear C13 C2 m4c
  try walk_at "rd"
  refine ⟨pl2, sl2, b, xs2, [], D14, xl2, n3j, by rw [ex2]; exact m4d, fun H15 S15 => ?_⟩
  have n3k := S614.trans S15
  have C15 := C14.same S15
  have D15 := D14.same S15
  have n5l := S15 _ _ hr14
  have m9p := S15 _ _ hlo14
  have m9q := S15 _ _ m4d
  clear C14 D14 hr14 hlo14 m4d
  try walk_at "rd"
  refine ⟨pl1, sl1, xs1, C15, xl1, n5k, b1, bb, bs, n3k _ _ hL, bk, Bk.same n3k, by rw [fl]; omega, bl, by rw [fl]; exact rb, fun J ps sl3 H16 B16 C16 hJ16 P16 => ?_⟩
  rw [fl] at C16 P16
  obtain ⟨dxa, osa, stsa, hca, _, _, Ra, _⟩ := id C15
  have D16 := D15.m0y hca c12.symm B16
  have k16 : ∀ {z : Addr} {u : HO}, H15 z = some u -> (∀ c d f, u ≠ .ins c d f) -> H16 z = some u := fun e hu => B16 _ _ (fun q => by rw [q, hca] at e; cases e; exact hu _ _ _ rfl) e
  have n3l := k16 n5l fun _ _ _ q => by cases q
  have m4e := k16 m9p fun _ _ _ q => by cases q
  have m9r := k16 m9q fun _ _ _ q => by cases q
  have m9s := k16 (n3k _ _ n5h) fun _ _ _ q => by cases q
  obtain ⟨cr, ll, g1, g2, z1, z2⟩ := j2c Ra R3 ex1 ex3 ok dl b1 bb rl rb
  try walk_at "rd"
  refine ⟨ps, hJ16, _, _, _, P16, _, lo, n3l, m4e, cr, ll, g1, g2, z1, z2, ?_⟩
  clear C15 D15 n5l m9p m9q hca Ra cr z1 z2 P16 hJ16
  refine ⟨by omega, fun l17 H17 n17 S17 h17 => ?_⟩
  have D17 := D16.same S17
  obtain ⟨dxb, osb, stsb, hcb, _, _, Rb, _⟩ := id D17
  try walk_at "rd"
  refine ⟨pl2, sl2, xs2, D17, xl2, n3j, b1, bb, [lr], h17, [row], ⟨rfl, fun i p x e1 e2 => ?_⟩, by simp; omega, (by show 1 <= 71; decide), by simpa using rb, fun J2 ps2 sl4 H18 B18 C18 hJ18 P18 => ?_⟩
  ·match i, e1, e2 with
   | 0, e1, e2 => cases e1; cases e2; exact S17 _ _ m9s
  rw [show ([row] : List (List Int)).flatten = row by simp] at C18 P18
  have C18' := (C16.same S17).m0y hcb c12 B18
  have k18 : ∀ {z : Addr} {u : HO}, H17 z = some u -> (∀ c d f, u ≠ .ins c d f) -> H18 z = some u := fun e hu => B18 _ _ (fun q => by rw [q, hcb] at e; cases e; exact hu _ _ _ rfl) e
  have hr18 := k18 (S17 _ _ n3l) fun _ _ _ q => by cases q
  have n3m := k18 (S17 _ _ m4e) fun _ _ _ q => by cases q
  have m9t := k18 (S17 _ _ m9r) fun _ _ _ q => by cases q
  obtain ⟨cr, ll, g1, g2, z1, z2⟩ := j2c Rb R3 ex2 ex3 ok dl b1 bb rl rb
  try walk_at "rd"
  refine ⟨ps2, hJ18, _, _, _, P18, _, lo, hr18, n3m, cr, ll, g1, g2, z1, z2, ?_⟩
  clear C16 D16 D17 n3l m4e m9r m9s hcb Rb cr z1 z2 P18 hJ18 h17
  try walk_at "rd"
  refine ⟨pl1, sl3, b, xs1, row, C18', xl1, n5k, by rw [ex1]; exact m9t, fun H19 S19 => ?_⟩
  try walk_at "rd"
  refine ⟨pl2, sl4, b, xs2, row, C18.same S19, xl2, n3j, by rw [ex2]; exact S19 _ _ m9t, fun H20 S20 => ?_⟩
  exact q _
theorem all_mk {l : PySem.W.OpenLaw} {w : World} {K : PySem.W.Frag} {h : Heap} {mg : Str → Option Value} {fa : Addr} (X : K.In h) (G : h.Ns mainGlobals mg) (hfa : mg "law" = some (.ref fa))
  {d7i a5k a3m a3j a4s a4y a2n a5p : Addr}
  (i3b : PySem.W.nsIn K mainGlobals "Part" = some (some (.ref d7i)))
  (h1u : PySem.W.nsIn K mainGlobals "Gain" = some (some (.ref a5k)))
  (g0q : PySem.W.nsIn K mainGlobals "Delay" = some (some (.ref a3m)))
  (h1v : PySem.W.nsIn K mainGlobals "Echo" = some (some (.ref a3j)))
  (h1w : PySem.W.nsIn K mainGlobals "Back" = some (some (.ref a4s)))
  (h1x : PySem.W.nsIn K mainGlobals "Hall" = some (some (.ref a4y)))
  (g0r : PySem.W.nsIn K mainGlobals "Swell" = some (some (.ref a2n)))
  (f3u : PySem.W.nsIn K mainGlobals "Chain" = some (some (.ref a5p)))
  {b8j : Addr} {j9r j9s : Option Addr} {j9t : Array (Option Value)} {j9u j9v j9w j9x h2w j9y : Value}
  (g3b : PySem.W.nsIn K mainGlobals "is_whole" = some (some (.ref b8j))) (g3c : K.lookup b8j = some ⟨j9u, j9r, .func (PySem.W.fnOf "is_whole" "is_whole" (a0v c3j) (a0u c3j) (a0h c3j) .none j9v j9w j9x j9s h2w j9y), j9t⟩) (g3d : PySem.W.codeIn K h2w "is_whole" = true) (g3e : PySem.W.keepIn K (.ref b8j) = true)
  {b0y : Addr} {i4i i4j : Option Addr} {i4k : Array (Option Value)} {i4l i4m i4n i4o g1e i4p : Value}
  (f0o : PySem.W.nsIn K mainGlobals "is_figures" = some (some (.ref b0y))) (f0p : K.lookup b0y = some ⟨i4l, i4i, .func (PySem.W.fnOf "is_figures" "is_figures" (a0v b4k) (a0u b4k) (a0h b4k) .none i4m i4n i4o i4j g1e i4p), i4k⟩) (f0q : PySem.W.codeIn K g1e "is_figures" = true) (f0r : PySem.W.keepIn K (.ref b0y) = true)
  {b8k : Addr} {j9z k0a : Option Addr} {k0b : Array (Option Value)} {k0c k0d k0f k0g h2x k0h : Value}
  (g3f : PySem.W.nsIn K mainGlobals "whole_of" = some (some (.ref b8k))) (g3g : K.lookup b8k = some ⟨k0c, j9z, .func (PySem.W.fnOf "whole_of" "whole_of" (a0v c3k) (a0u c3k) (a0h c3k) .none k0d k0f k0g k0a h2x k0h), k0b⟩) (g3h : PySem.W.codeIn K h2x "whole_of" = true) (g3i : PySem.W.keepIn K (.ref b8k) = true)
  {c0s : Addr} {k8b k8c : Option Addr} {k8d : Array (Option Value)} {k8e k8f k8g k8h i1k k8i : Value}
  (h2y : PySem.W.nsIn K mainGlobals "divisor" = some (some (.ref c0s))) (h2z : K.lookup c0s = some ⟨k8e, k8b, .func (PySem.W.fnOf "divisor" "divisor" (a0v d0z) (a0u d0z) (a0h d0z) .none k8f k8g k8h k8c i1k k8i), k8d⟩) (h3a : PySem.W.codeIn K i1k "divisor" = true) (h3b : PySem.W.keepIn K (.ref c0s) = true)
  {b8l : Addr} {k0i k0j : Option Addr} {k0k : Array (Option Value)} {k0l k0m k0n k0o h3c k0p : Value}
  (g3j : PySem.W.nsIn K mainGlobals "multiple" = some (some (.ref b8l))) (g3k : K.lookup b8l = some ⟨k0l, k0i, .func (PySem.W.fnOf "multiple" "multiple" (a0v c3l) (a0u c3l) (a0h c3l) .none k0m k0n k0o k0j h3c k0p), k0k⟩) (g3l : PySem.W.codeIn K h3c "multiple" = true) (g3m : PySem.W.keepIn K (.ref b8l) = true)
  {b8m : Addr} {k0q k0r : Option Addr} {k0s : Array (Option Value)} {k0t k0u k0v k0w h3d k0x : Value}
  (g3n : PySem.W.nsIn K mainGlobals "fraction" = some (some (.ref b8m))) (g3o : K.lookup b8m = some ⟨k0t, k0q, .func (PySem.W.fnOf "fraction" "fraction" (a0v c3m) (a0u c3m) (a0h c3m) .none k0u k0v k0w k0r h3d k0x), k0s⟩) (g3p : PySem.W.codeIn K h3d "fraction" = true) (g3q : PySem.W.keepIn K (.ref b8m) = true)
  {h1c : Addr} {m4f m4g : Option Addr} {m4h : Array (Option Value)} {m4i m4j m4k m4l l5x m4m : Value}
  (l5y : PySem.W.nsIn K mainGlobals "plus" = some (some (.ref h1c))) (l5z : K.lookup h1c = some ⟨m4i, m4f, .func (PySem.W.fnOf "plus" "plus" (a0v i0l) (a0u i0l) (a0h i0l) .none m4j m4k m4l m4g l5x m4m), m4h⟩) (l6a : PySem.W.codeIn K l5x "plus" = true) (l6b : PySem.W.keepIn K (.ref h1c) = true)
  {f5t : Addr} {l9h l9i : Option Addr} {l9j : Array (Option Value)} {l9k l9l l9m l9n k5j l9o : Value}
  (k0y : PySem.W.nsIn K mainGlobals "times" = some (some (.ref f5t))) (k0z : K.lookup f5t = some ⟨l9k, l9h, .func (PySem.W.fnOf "times" "times" (a0v g1z) (a0u g1z) (a0h g1z) .none l9l l9m l9n l9i k5j l9o), l9j⟩) (k1a : PySem.W.codeIn K k5j "times" = true) (k1b : PySem.W.keepIn K (.ref f5t) = true)
  {c4l : Addr} {k8j k8k : Option Addr} {k8l : Array (Option Value)} {k8m k8n k8o k8p i1l k8q : Value}
  (h3e : PySem.W.nsIn K mainGlobals "size_of" = some (some (.ref c4l))) (h3f : K.lookup c4l = some ⟨k8m, k8j, .func (PySem.W.fnOf "size_of" "size_of" (a0v d1g) (a0u d1g) (a0h d1g) .none k8n k8o k8p k8k i1l k8q), k8l⟩) (h3g : PySem.W.codeIn K i1l "size_of" = true) (h3h : PySem.W.keepIn K (.ref c4l) = true)
  {b8n : Addr} {k1c k1d : Option Addr} {k1e : Array (Option Value)} {k1f k1g k1h k1i h3i k1j : Value}
  (g3r : PySem.W.nsIn K mainGlobals "is_under" = some (some (.ref b8n))) (g3s : K.lookup b8n = some ⟨k1f, k1c, .func (PySem.W.fnOf "is_under" "is_under" (a0v c3n) (a0u c3n) (a0h c3n) .none k1g k1h k1i k1d h3i k1j), k1e⟩) (g3t : PySem.W.codeIn K h3i "is_under" = true) (g3u : PySem.W.keepIn K (.ref b8n) = true)
  {a4o : Addr} {g7c g7d : Option Addr} {g7e : Array (Option Value)} {g7f g7g g7h g7i d7l g7j : Value}
  (c5v : PySem.W.nsIn K mainGlobals "fraction_text" = some (some (.ref a4o))) (c5w : K.lookup a4o = some ⟨g7f, g7c, .func (PySem.W.fnOf "fraction_text" "fraction_text" (a0v a7r) (a0u a7r) (a0h a7r) .none g7g g7h g7i g7d d7l g7j), g7e⟩) (c5y : PySem.W.codeIn K d7l "fraction_text" = true) (c5z : PySem.W.keepIn K (.ref a4o) = true)
  {a5y : Addr} {g7k g7l : Option Addr} {g7m : Array (Option Value)} {g7n g7o g7p g7q d7m g7r : Value}
  (c6g : PySem.W.nsIn K mainGlobals "read_fraction" = some (some (.ref a5y))) (c6h : K.lookup a5y = some ⟨g7n, g7k, .func (PySem.W.fnOf "read_fraction" "read_fraction" (a0v a7s) (a0u a7s) (a0h a7s) .none g7o g7p g7q g7l d7m g7r), g7m⟩) (c6i : PySem.W.codeIn K d7m "read_fraction" = true) (c6j : PySem.W.keepIn K (.ref a5y) = true)
  {b0z : Addr} {i4q i4r : Option Addr} {i4s : Array (Option Value)} {i4t i4u i4v i4w g1f i4x : Value}
  (f0s : PySem.W.nsIn K mainGlobals "added_rows" = some (some (.ref b0z))) (f0t : K.lookup b0z = some ⟨i4t, i4q, .func (PySem.W.fnOf "added_rows" "added_rows" (a0v b0t) (a0u b0t) (a0h b0t) .none i4u i4v i4w i4r g1f i4x), i4s⟩) (f0u : PySem.W.codeIn K g1f "added_rows" = true) (f0v : PySem.W.keepIn K (.ref b0z) = true)
  {b3t : Addr} {j2d j2e : Option Addr} {j2f : Array (Option Value)} {j2g j2h j2i j2j g5x j2k : Value}
  (f6z : PySem.W.nsIn K mainGlobals "times_row" = some (some (.ref b3t))) (f7g : K.lookup b3t = some ⟨j2g, j2d, .func (PySem.W.fnOf "times_row" "times_row" (a0v b3r) (a0u b3r) (a0h b3r) .none j2h j2i j2j j2e g5x j2k), j2f⟩) (f7h : PySem.W.codeIn K g5x "times_row" = true) (f7i : PySem.W.keepIn K (.ref b3t) = true)
  {c4m : Addr} {k8r k8s : Option Addr} {k8t : Array (Option Value)} {k8u k8v k8w k8x i1m k8y : Value}
  (h3j : PySem.W.nsIn K mainGlobals "delayed" = some (some (.ref c4m))) (h3k : K.lookup c4m = some ⟨k8u, k8r, .func (PySem.W.fnOf "delayed" "delayed" (a0v c4j) (a0u c4j) (a0h c4j) .none k8v k8w k8x k8s i1m k8y), k8t⟩) (h3l : PySem.W.codeIn K i1m "delayed" = true) (h3m : PySem.W.keepIn K (.ref c4m) = true)
  {c4n : Addr} {k8z k9a : Option Addr} {k9b : Array (Option Value)} {k9c k9d k9e k9f i1n k9g : Value}
  (h3n : PySem.W.nsIn K mainGlobals "last_of" = some (some (.ref c4n))) (h3o : K.lookup c4n = some ⟨k9c, k8z, .func (PySem.W.fnOf "last_of" "last_of" (a0v d1h) (a0u d1h) (a0h d1h) .none k9d k9e k9f k9a i1n k9g), k9b⟩) (h3p : PySem.W.codeIn K i1n "last_of" = true) (h3q : PySem.W.keepIn K (.ref c4n) = true)
  {a3i : Addr} {i4y i4z : Option Addr} {i5a : Array (Option Value)} {i5b i5c i5d i5e g1g i5f : Value}
  (f0w : PySem.W.findIn K (.ref d7i) "grain" = some (some (.ref a3i))) (f0y : K.lookup a3i = some ⟨i5b, i4y, .func (PySem.W.fnOf "grain" "Part.grain" (a0v b4l) (a0u b4l) (a0h b4l) .none i5c i5d i5e i4z g1g i5f), i5a⟩) (f0z : PySem.W.codeIn K g1g "Part.grain" = true) (b5m : PySem.W.keepIn K (.ref a3i) = true)
  {a2h : Addr} {i5g i5h : Option Addr} {i5i : Array (Option Value)} {i5j i5k i5l i5m g1h i5n : Value}
  (f1g : PySem.W.findIn K (.ref d7i) "fresh" = some (some (.ref a2h))) (f1h : K.lookup a2h = some ⟨i5j, i5g, .func (PySem.W.fnOf "fresh" "Part.fresh" (a0v b4m) (a0u b4m) (a0h b4m) .none i5k i5l i5m i5h g1h i5n), i5i⟩) (f1i : PySem.W.codeIn K g1h "Part.fresh" = true) (a7i : PySem.W.keepIn K (.ref a2h) = true)
  {b1g : Addr} {j2l j2m : Option Addr} {j2n : Array (Option Value)} {j2o j2p j2q j2r g5y j2s : Value}
  (f7j : PySem.W.findIn K (.ref a5k) "__init__" = some (some (.ref b1g))) (f7k : K.lookup b1g = some ⟨j2o, j2l, .func (PySem.W.fnOf "__init__" "Gain.__init__" (a0v b7l) (a0u b7l) (a0h b7l) .none j2p j2q j2r j2m g5y j2s), j2n⟩) (f7l : PySem.W.codeIn K g5y "Gain.__init__" = true) (f7m : PySem.W.keepIn K (.ref b1g) = true)
  {a6r : Addr} {i5o i5p : Option Addr} {i5q : Array (Option Value)} {i5r i5s i5t i5u g1i i5v : Value}
  (f1j : PySem.W.findIn K (.ref a5k) "grain" = some (some (.ref a6r))) (f1k : K.lookup a6r = some ⟨i5r, i5o, .func (PySem.W.fnOf "grain" "Gain.grain" (a0v b4n) (a0u b4n) (a0h b4n) .none i5s i5t i5u i5p g1i i5v), i5q⟩) (f1l : PySem.W.codeIn K g1i "Gain.grain" = true) (c8q : PySem.W.keepIn K (.ref a6r) = true)
  {a4i : Addr} {h3r h3s : Option Addr} {h3t : Array (Option Value)} {h3u h3v h3w h3x f1m h3y : Value}
  (d0h : PySem.W.findIn K (.ref a5k) "through" = some (some (.ref a4i))) (d0i : K.lookup a4i = some ⟨h3u, h3r, .func (PySem.W.fnOf "through" "Gain.through" (a0v b0j) (a0u b0j) (a0h b0j) .none h3v h3w h3x h3s f1m h3y), h3t⟩) (d0j : PySem.W.codeIn K f1m "Gain.through" = true) (b9y : PySem.W.keepIn K (.ref a4i) = true)
  {b1h : Addr} {j2t j2u : Option Addr} {j2v : Array (Option Value)} {j2w j2x j2y j2z g5z j3a : Value}
  (f7n : PySem.W.findIn K (.ref a5k) "word" = some (some (.ref b1h))) (f7o : K.lookup b1h = some ⟨j2w, j2t, .func (PySem.W.fnOf "word" "Gain.word" (a0v b7m) (a0u b7m) (a0h b7m) .none j2x j2y j2z j2u g5z j3a), j2v⟩) (f7p : PySem.W.codeIn K g5z "Gain.word" = true) (d4p : PySem.W.keepIn K (.ref b1h) = true)
  {a8p : Addr} {i5w i5x : Option Addr} {i5y : Array (Option Value)} {i5z i6a i6b i6c g1j i6d : Value}
  (f1n : PySem.W.findIn K (.ref a3m) "__init__" = some (some (.ref a8p))) (f1o : K.lookup a8p = some ⟨i5z, i5w, .func (PySem.W.fnOf "__init__" "Delay.__init__" (a0v b4o) (a0u b4o) (a0h b4o) .none i6a i6b i6c i5x g1j i6d), i5y⟩) (f1p : PySem.W.codeIn K g1j "Delay.__init__" = true) (f1q : PySem.W.keepIn K (.ref a8p) = true)
  {a3s : Addr} {g7s g7t : Option Addr} {g7u : Array (Option Value)} {g7v g7w g7x g7y d7n g7z : Value}
  (c6k : PySem.W.findIn K (.ref a3m) "through" = some (some (.ref a3s))) (c6l : K.lookup a3s = some ⟨g7v, g7s, .func (PySem.W.fnOf "through" "Delay.through" (a0v a7t) (a0u a7t) (a0h a7t) .none g7w g7x g7y g7t d7n g7z), g7u⟩) (c6m : PySem.W.codeIn K d7n "Delay.through" = true) (b6w : PySem.W.keepIn K (.ref a3s) = true)
  {a8q : Addr} {i6e i6f : Option Addr} {i6g : Array (Option Value)} {i6h i6i i6j i6k g1k i6l : Value}
  (f1r : PySem.W.findIn K (.ref a3m) "word" = some (some (.ref a8q))) (f1s : K.lookup a8q = some ⟨i6h, i6e, .func (PySem.W.fnOf "word" "Delay.word" (a0v b4p) (a0u b4p) (a0h b4p) .none i6i i6j i6k i6f g1k i6l), i6g⟩) (f1t : PySem.W.codeIn K g1k "Delay.word" = true) (c8r : PySem.W.keepIn K (.ref a8q) = true)
  {b3u : Addr} {j3b j3c : Option Addr} {j3d : Array (Option Value)} {j3e j3f j3g j3h g6a j3i : Value}
  (f7q : PySem.W.nsIn K mainGlobals "powers_of" = some (some (.ref b3u))) (f7r : K.lookup b3u = some ⟨j3e, j3b, .func (PySem.W.fnOf "powers_of" "powers_of" (a0v b7n) (a0u b7n) (a0h b7n) .none j3f j3g j3h j3c g6a j3i), j3d⟩) (f7s : PySem.W.codeIn K g6a "powers_of" = true) (f7t : PySem.W.keepIn K (.ref b3u) = true)
  {a5z : Addr} {g8a g8b : Option Addr} {g8c : Array (Option Value)} {g8d g8e g8f g8g d7o g8h : Value}
  (c6n : PySem.W.nsIn K mainGlobals "toward_nought" = some (some (.ref a5z))) (c6o : K.lookup a5z = some ⟨g8d, g8a, .func (PySem.W.fnOf "toward_nought" "toward_nought" (a0v a7u) (a0u a7u) (a0h a7u) .none g8e g8f g8g g8b d7o g8h), g8c⟩) (c6p : PySem.W.codeIn K d7o "toward_nought" = true) (c6q : PySem.W.keepIn K (.ref a5z) = true)
  {b1i : Addr} {j3j j3k : Option Addr} {j3l : Array (Option Value)} {j3m j3n j3o j3p g6b j3q : Value}
  (f7u : PySem.W.findIn K (.ref a3j) "__init__" = some (some (.ref b1i))) (f7v : K.lookup b1i = some ⟨j3m, j3j, .func (PySem.W.fnOf "__init__" "Echo.__init__" (a0v b3s) (a0u b3s) (a0h b3s) .none j3n j3o j3p j3k g6b j3q), j3l⟩) (f7w : PySem.W.codeIn K g6b "Echo.__init__" = true) (f7y : PySem.W.keepIn K (.ref b1i) = true)
  {a6s : Addr} {i6m i6n : Option Addr} {i6o : Array (Option Value)} {i6p i6q i6r i6s g1l i6t : Value}
  (f1u : PySem.W.findIn K (.ref a3j) "grain" = some (some (.ref a6s))) (f1v : K.lookup a6s = some ⟨i6p, i6m, .func (PySem.W.fnOf "grain" "Echo.grain" (a0v b4q) (a0u b4q) (a0h b4q) .none i6q i6r i6s i6n g1l i6t), i6o⟩) (f1w : PySem.W.codeIn K g1l "Echo.grain" = true) (c8s : PySem.W.keepIn K (.ref a6s) = true)
  {a4j : Addr} {h3z h4a : Option Addr} {h4b : Array (Option Value)} {h4d h4e h4f h4g f1y h4h : Value}
  (d0k : PySem.W.findIn K (.ref a3j) "through" = some (some (.ref a4j))) (d0l : K.lookup a4j = some ⟨h4d, h3z, .func (PySem.W.fnOf "through" "Echo.through" (a0v b0k) (a0u b0k) (a0h b0k) .none h4e h4f h4g h4a f1y h4h), h4b⟩) (d0m : PySem.W.codeIn K f1y "Echo.through" = true) (b9z : PySem.W.keepIn K (.ref a4j) = true)
  {a8r : Addr} {i6u i6v : Option Addr} {i6w : Array (Option Value)} {i6x i6y i6z i7a g1m i7b : Value}
  (f1z : PySem.W.findIn K (.ref a3j) "reach" = some (some (.ref a8r))) (f2g : K.lookup a8r = some ⟨i6x, i6u, .func (PySem.W.fnOf "reach" "Echo.reach" (a0v b4r) (a0u b4r) (a0h b4r) .none i6y i6z i7a i6v g1m i7b), i6w⟩) (f2h : PySem.W.codeIn K g1m "Echo.reach" = true) (c8t : PySem.W.keepIn K (.ref a8r) = true)
  {b1j : Addr} {j3r j3s : Option Addr} {j3t : Array (Option Value)} {j3u j3v j3w j3x g6c j3y : Value}
  (f7z : PySem.W.findIn K (.ref a3j) "word" = some (some (.ref b1j))) (f8g : K.lookup b1j = some ⟨j3u, j3r, .func (PySem.W.fnOf "word" "Echo.word" (a0v b7o) (a0u b7o) (a0h b7o) .none j3v j3w j3x j3s g6c j3y), j3t⟩) (f8h : PySem.W.codeIn K g6c "Echo.word" = true) (d4q : PySem.W.keepIn K (.ref b1j) = true)
  {b1k : Addr} {j3z j4a : Option Addr} {j4b : Array (Option Value)} {j4c j4d j4e j4f g6d j4g : Value}
  (f8i : PySem.W.findIn K (.ref a4s) "__init__" = some (some (.ref b1k))) (f8j : K.lookup b1k = some ⟨j4c, j3z, .func (PySem.W.fnOf "__init__" "Back.__init__" (a0v b7p) (a0u b7p) (a0h b7p) .none j4d j4e j4f j4a g6d j4g), j4b⟩) (f8k : PySem.W.codeIn K g6d "Back.__init__" = true) (f8l : PySem.W.keepIn K (.ref b1k) = true)
  {a6t : Addr} {i7c i7d : Option Addr} {i7e : Array (Option Value)} {i7f i7g i7h i7i g1n i7j : Value}
  (f2i : PySem.W.findIn K (.ref a4s) "grain" = some (some (.ref a6t))) (f2j : K.lookup a6t = some ⟨i7f, i7c, .func (PySem.W.fnOf "grain" "Back.grain" (a0v b4s) (a0u b4s) (a0h b4s) .none i7g i7h i7i i7d g1n i7j), i7e⟩) (f2k : PySem.W.codeIn K g1n "Back.grain" = true) (c8u : PySem.W.keepIn K (.ref a6t) = true)
  {a4k : Addr} {h4i h4j : Option Addr} {h4k : Array (Option Value)} {h4l h4m h4n h4o f2l h4p : Value}
  (d0n : PySem.W.findIn K (.ref a4s) "through" = some (some (.ref a4k))) (d0o : K.lookup a4k = some ⟨h4l, h4i, .func (PySem.W.fnOf "through" "Back.through" (a0v b0l) (a0u b0l) (a0h b0l) .none h4m h4n h4o h4j f2l h4p), h4k⟩) (d0p : PySem.W.codeIn K f2l "Back.through" = true) (c0g : PySem.W.keepIn K (.ref a4k) = true)
  {b1l : Addr} {j4h j4i : Option Addr} {j4j : Array (Option Value)} {j4k j4l j4m j4n g6e j4o : Value}
  (f8m : PySem.W.findIn K (.ref a4s) "word" = some (some (.ref b1l))) (f8n : K.lookup b1l = some ⟨j4k, j4h, .func (PySem.W.fnOf "word" "Back.word" (a0v b7q) (a0u b7q) (a0h b7q) .none j4l j4m j4n j4i g6e j4o), j4j⟩) (f8o : PySem.W.codeIn K g6e "Back.word" = true) (d4r : PySem.W.keepIn K (.ref b1l) = true)
  {b1m : Addr} {j4p j4q : Option Addr} {j4r : Array (Option Value)} {j4s j4t j4u j4v g6f j4w : Value}
  (f8p : PySem.W.findIn K (.ref a4y) "__init__" = some (some (.ref b1m))) (f8q : K.lookup b1m = some ⟨j4s, j4p, .func (PySem.W.fnOf "__init__" "Hall.__init__" (a0v b7r) (a0u b7r) (a0h b7r) .none j4t j4u j4v j4q g6f j4w), j4r⟩) (f8r : PySem.W.codeIn K g6f "Hall.__init__" = true) (f8s : PySem.W.keepIn K (.ref b1m) = true)
  {a4l : Addr} {h4q h4r : Option Addr} {h4s : Array (Option Value)} {h4t h4u h4v h4w f2m h4x : Value}
  (d0q : PySem.W.findIn K (.ref a4y) "through" = some (some (.ref a4l))) (d0r : K.lookup a4l = some ⟨h4t, h4q, .func (PySem.W.fnOf "through" "Hall.through" (a0v b0m) (a0u b0m) (a0h b0m) .none h4u h4v h4w h4r f2m h4x), h4s⟩) (d0s : PySem.W.codeIn K f2m "Hall.through" = true) (c0h : PySem.W.keepIn K (.ref a4l) = true)
  {b1n : Addr} {j4x j4y : Option Addr} {j4z : Array (Option Value)} {j5a j5b j5c j5d g6g j5e : Value}
  (f8t : PySem.W.findIn K (.ref a4y) "word" = some (some (.ref b1n))) (f8u : K.lookup b1n = some ⟨j5a, j4x, .func (PySem.W.fnOf "word" "Hall.word" (a0v b7s) (a0u b7s) (a0h b7s) .none j5b j5c j5d j4y g6g j5e), j4z⟩) (f8v : PySem.W.codeIn K g6g "Hall.word" = true) (d4s : PySem.W.keepIn K (.ref b1n) = true)
  {a6g : Addr} {g8i g8j : Option Addr} {g8k : Array (Option Value)} {g8l g8m g8n g8o d7p g8p : Value}
  (c6r : PySem.W.nsIn K mainGlobals "shared_bottom" = some (some (.ref a6g))) (c6s : K.lookup a6g = some ⟨g8l, g8i, .func (PySem.W.fnOf "shared_bottom" "shared_bottom" (a0v a7v) (a0u a7v) (a0h a7v) .none g8m g8n g8o g8j d7p g8p), g8k⟩) (c6t : PySem.W.codeIn K d7p "shared_bottom" = true) (c6u : PySem.W.keepIn K (.ref a6g) = true)
  {b3v : Addr} {j5f j5g : Option Addr} {j5h : Array (Option Value)} {j5i j5j j5k j5l g6h j5m : Value}
  (f8w : PySem.W.nsIn K mainGlobals "slopes_of" = some (some (.ref b3v))) (f8y : K.lookup b3v = some ⟨j5i, j5f, .func (PySem.W.fnOf "slopes_of" "slopes_of" (a0v b7t) (a0u b7t) (a0h b7t) .none j5j j5k j5l j5g g6h j5m), j5h⟩) (f8z : PySem.W.codeIn K g6h "slopes_of" = true) (f9g : PySem.W.keepIn K (.ref b3v) = true)
  {h1e : Addr} {m4n m4o : Option Addr} {m4p : Array (Option Value)} {m4q m4r m4s m4t l6c m4u : Value}
  (l6d : PySem.W.nsIn K mainGlobals "over" = some (some (.ref h1e))) (l6e : K.lookup h1e = some ⟨m4q, m4n, .func (PySem.W.fnOf "over" "over" (a0v i0m) (a0u i0m) (a0h i0m) .none m4r m4s m4t m4o l6c m4u), m4p⟩) (l6f : PySem.W.codeIn K l6c "over" = true) (l6g : PySem.W.keepIn K (.ref h1e) = true)
  {a9g : Addr} {h6u h6v : Option Addr} {h6w : Array (Option Value)} {h6x h6y h6z h7a f4u h7b : Value}
  (d4t : PySem.W.nsIn K mainGlobals "corner_word" = some (some (.ref a9g))) (d4u : K.lookup a9g = some ⟨h6x, h6u, .func (PySem.W.fnOf "corner_word" "corner_word" (a0v b2g) (a0u b2g) (a0h b2g) .none h6y h6z h7a h6v f4u h7b), h6w⟩) (d4v : PySem.W.codeIn K f4u "corner_word" = true) (d4w : PySem.W.keepIn K (.ref a9g) = true)
  {a8s : Addr} {i7k i7l : Option Addr} {i7m : Array (Option Value)} {i7n i7o i7p i7q g1o i7r : Value}
  (f2n : PySem.W.findIn K (.ref a2n) "__init__" = some (some (.ref a8s))) (f2o : K.lookup a8s = some ⟨i7n, i7k, .func (PySem.W.fnOf "__init__" "Swell.__init__" (a0v a6q) (a0u a6q) (a0h a6q) .none i7o i7p i7q i7l g1o i7r), i7m⟩) (f2p : PySem.W.codeIn K g1o "Swell.__init__" = true) (f2q : PySem.W.keepIn K (.ref a8s) = true)
  {a5o : Addr} {h7c h7d : Option Addr} {h7e : Array (Option Value)} {h7f h7g h7h h7i f4v h7j : Value}
  (d4y : PySem.W.findIn K (.ref a2n) "grain" = some (some (.ref a5o))) (d4z : K.lookup a5o = some ⟨h7f, h7c, .func (PySem.W.fnOf "grain" "Swell.grain" (a0v b2h) (a0u b2h) (a0h b2h) .none h7g h7h h7i h7d f4v h7j), h7e⟩) (d5g : PySem.W.codeIn K f4v "Swell.grain" = true) (c2y : PySem.W.keepIn K (.ref a5o) = true)
  {a6u : Addr} {h7k h7l : Option Addr} {h7m : Array (Option Value)} {h7n h7o h7p h7q f4w h7r : Value}
  (d5h : PySem.W.findIn K (.ref a2n) "fresh" = some (some (.ref a6u))) (d5i : K.lookup a6u = some ⟨h7n, h7k, .func (PySem.W.fnOf "fresh" "Swell.fresh" (a0v b2j) (a0u b2j) (a0h b2j) .none h7o h7p h7q h7l f4w h7r), h7m⟩) (d5j : PySem.W.codeIn K f4w "Swell.fresh" = true) (c2z : PySem.W.keepIn K (.ref a6u) = true)
  {a4p : Addr} {g8q g8r : Option Addr} {g8s : Array (Option Value)} {g8t g8u g8v g8w d7q g8x : Value}
  (c6v : PySem.W.findIn K (.ref a2n) "line_at" = some (some (.ref a4p))) (c6w : K.lookup a4p = some ⟨g8t, g8q, .func (PySem.W.fnOf "line_at" "Swell.line_at" (a0v a7w) (a0u a7w) (a0h a7w) .none g8u g8v g8w g8r d7q g8x), g8s⟩) (c6y : PySem.W.codeIn K d7q "Swell.line_at" = true) (b6y : PySem.W.keepIn K (.ref a4p) = true)
  {a4q : Addr} {g8y g8z : Option Addr} {g9a : Array (Option Value)} {g9b g9c g9d g9e d7r g9f : Value}
  (c6z : PySem.W.findIn K (.ref a2n) "gain_at" = some (some (.ref a4q))) (c7g : K.lookup a4q = some ⟨g9b, g8y, .func (PySem.W.fnOf "gain_at" "Swell.gain_at" (a0v a7y) (a0u a7y) (a0h a7y) .none g9c g9d g9e g8z d7r g9f), g9a⟩) (c7h : PySem.W.codeIn K d7r "Swell.gain_at" = true) (b6z : PySem.W.keepIn K (.ref a4q) = true)
  {a3t : Addr} {g9g g9h : Option Addr} {g9i : Array (Option Value)} {g9j g9k g9l g9m d7s g9n : Value}
  (c7i : PySem.W.findIn K (.ref a2n) "through" = some (some (.ref a3t))) (c7j : K.lookup a3t = some ⟨g9j, g9g, .func (PySem.W.fnOf "through" "Swell.through" (a0v a5w) (a0u a5w) (a0h a5w) .none g9k g9l g9m g9h d7s g9n), g9i⟩) (c7k : PySem.W.codeIn K d7s "Swell.through" = true) (b7g : PySem.W.keepIn K (.ref a3t) = true)
  {a8t : Addr} {i7s i7t : Option Addr} {i7u : Array (Option Value)} {i7v i7w i7x i7y g1p i7z : Value}
  (f2r : PySem.W.findIn K (.ref a2n) "word" = some (some (.ref a8t))) (f2s : K.lookup a8t = some ⟨i7v, i7s, .func (PySem.W.fnOf "word" "Swell.word" (a0v b0u) (a0u b0u) (a0h b0u) .none i7w i7x i7y i7t g1p i7z), i7u⟩) (f2t : PySem.W.codeIn K g1p "Swell.word" = true) (c8v : PySem.W.keepIn K (.ref a8t) = true)
  {b3w : Addr} {j5n j5o : Option Addr} {j5p : Array (Option Value)} {j5q j5r j5s j5t g6i j5u : Value}
  (f9h : PySem.W.nsIn K mainGlobals "read_gain" = some (some (.ref b3w))) (f9i : K.lookup b3w = some ⟨j5q, j5n, .func (PySem.W.fnOf "read_gain" "read_gain" (a0v b7u) (a0u b7u) (a0h b7u) .none j5r j5s j5t j5o g6i j5u), j5p⟩) (f9j : PySem.W.codeIn K g6i "read_gain" = true) (f9k : PySem.W.keepIn K (.ref b3w) = true)
  {a9h : Addr} {h7s h7t : Option Addr} {h7u : Array (Option Value)} {h7v h7w h7x h7y f4y h7z : Value}
  (d5k : PySem.W.nsIn K mainGlobals "read_number" = some (some (.ref a9h))) (d5l : K.lookup a9h = some ⟨h7v, h7s, .func (PySem.W.fnOf "read_number" "read_number" (a0v b2k) (a0u b2k) (a0h b2k) .none h7w h7x h7y h7t f4y h7z), h7u⟩) (d5m : PySem.W.codeIn K f4y "read_number" = true) (d5n : PySem.W.keepIn K (.ref a9h) = true)
  {b3y : Addr} {j5v j5w : Option Addr} {j5x : Array (Option Value)} {j5y j5z j6a j6b g6j j6c : Value}
  (f9l : PySem.W.nsIn K mainGlobals "read_many" = some (some (.ref b3y))) (f9m : K.lookup b3y = some ⟨j5y, j5v, .func (PySem.W.fnOf "read_many" "read_many" (a0v b7v) (a0u b7v) (a0h b7v) .none j5z j6a j6b j5w g6j j6c), j5x⟩) (f9n : PySem.W.codeIn K g6j "read_many" = true) (f9o : PySem.W.keepIn K (.ref b3y) = true)
  {a9i : Addr} {h8a h8b : Option Addr} {h8c : Array (Option Value)} {h8d h8e h8f h8g f4z h8h : Value}
  (d5o : PySem.W.nsIn K mainGlobals "check_count" = some (some (.ref a9i))) (d5p : K.lookup a9i = some ⟨h8d, h8a, .func (PySem.W.fnOf "check_count" "check_count" (a0v b2l) (a0u b2l) (a0h b2l) .none h8e h8f h8g h8b f4z h8h), h8c⟩) (d5q : PySem.W.codeIn K f4z "check_count" = true) (d5r : PySem.W.keepIn K (.ref a9i) = true)
  {b5z : Addr} {k9h k9i : Option Addr} {k9j : Array (Option Value)} {k9k k9l k9m k9n i1o k9o : Value}
  (h4y : PySem.W.nsIn K mainGlobals "gain_of" = some (some (.ref b5z))) (h4z : K.lookup b5z = some ⟨k9k, k9h, .func (PySem.W.fnOf "gain_of" "gain_of" (a0v d1i) (a0u d1i) (a0h d1i) .none k9l k9m k9n k9i i1o k9o), k9j⟩) (h5a : PySem.W.codeIn K i1o "gain_of" = true) (h5b : PySem.W.keepIn K (.ref b5z) = true)
  {b2s : Addr} {k1k k1l : Option Addr} {k1m : Array (Option Value)} {k1n k1o k1p k1q h5c k1r : Value}
  (g3v : PySem.W.nsIn K mainGlobals "delay_of" = some (some (.ref b2s))) (g3w : K.lookup b2s = some ⟨k1n, k1k, .func (PySem.W.fnOf "delay_of" "delay_of" (a0v c3o) (a0u c3o) (a0h c3o) .none k1o k1p k1q k1l h5c k1r), k1m⟩) (g3x : PySem.W.codeIn K h5c "delay_of" = true) (g3y : PySem.W.keepIn K (.ref b2s) = true)
  {b6g : Addr} {k9p k9q : Option Addr} {k9r : Array (Option Value)} {k9s k9t k9u k9v i1p k9w : Value}
  (h5d : PySem.W.nsIn K mainGlobals "echo_of" = some (some (.ref b6g))) (h5e : K.lookup b6g = some ⟨k9s, k9p, .func (PySem.W.fnOf "echo_of" "echo_of" (a0v d1j) (a0u d1j) (a0h d1j) .none k9t k9u k9v k9q i1p k9w), k9r⟩) (h5f : PySem.W.codeIn K i1p "echo_of" = true) (h5g : PySem.W.keepIn K (.ref b6g) = true)
  {b6h : Addr} {k9x k9y : Option Addr} {k9z : Array (Option Value)} {l0a l0b l0c l0d i1q l0e : Value}
  (h5h : PySem.W.nsIn K mainGlobals "back_of" = some (some (.ref b6h))) (h5i : K.lookup b6h = some ⟨l0a, k9x, .func (PySem.W.fnOf "back_of" "back_of" (a0v d1k) (a0u d1k) (a0h d1k) .none l0b l0c l0d k9y i1q l0e), k9z⟩) (h5j : PySem.W.codeIn K i1q "back_of" = true) (h5k : PySem.W.keepIn K (.ref b6h) = true)
  {b6i : Addr} {l0f l0g : Option Addr} {l0h : Array (Option Value)} {l0i l0j l0k l0l i1r l0m : Value}
  (h5l : PySem.W.nsIn K mainGlobals "hall_of" = some (some (.ref b6i))) (h5m : K.lookup b6i = some ⟨l0i, l0f, .func (PySem.W.fnOf "hall_of" "hall_of" (a0v d1l) (a0u d1l) (a0h d1l) .none l0j l0k l0l l0g i1r l0m), l0h⟩) (h5n : PySem.W.codeIn K i1r "hall_of" = true) (h5o : PySem.W.keepIn K (.ref b6i) = true)
  {a9j : Addr} {h8i h8j : Option Addr} {h8k : Array (Option Value)} {h8l h8m h8n h8o f5g h8p : Value}
  (d5s : PySem.W.nsIn K mainGlobals "read_corner" = some (some (.ref a9j))) (d5t : K.lookup a9j = some ⟨h8l, h8i, .func (PySem.W.fnOf "read_corner" "read_corner" (a0v b2m) (a0u b2m) (a0h b2m) .none h8m h8n h8o h8j f5g h8p), h8k⟩) (d5u : PySem.W.codeIn K f5g "read_corner" = true) (d5v : PySem.W.keepIn K (.ref a9j) = true)
  {b2t : Addr} {k1s k1t : Option Addr} {k1u : Array (Option Value)} {k1v k1w k1x k1y h5p k1z : Value}
  (g3z : PySem.W.nsIn K mainGlobals "swell_of" = some (some (.ref b2t))) (g4a : K.lookup b2t = some ⟨k1v, k1s, .func (PySem.W.fnOf "swell_of" "swell_of" (a0v b7w) (a0u b7w) (a0h b7w) .none k1w k1x k1y k1t h5p k1z), k1u⟩) (g4b : PySem.W.codeIn K h5p "swell_of" = true) (g4c : PySem.W.keepIn K (.ref b2t) = true)
  {c4o : Addr} {l0n l0o : Option Addr} {l0p : Array (Option Value)} {l0q l0r l0s l0t i1s l0u : Value}
  (h5q : PySem.W.nsIn K mainGlobals "part_of" = some (some (.ref c4o))) (h5r : K.lookup c4o = some ⟨l0q, l0n, .func (PySem.W.fnOf "part_of" "part_of" (a0v d1m) (a0u d1m) (a0h d1m) .none l0r l0s l0t l0o i1s l0u), l0p⟩) (h5s : PySem.W.codeIn K i1s "part_of" = true) (h5t : PySem.W.keepIn K (.ref c4o) = true)
  {b8o : Addr} {k2a k2b : Option Addr} {k2c : Array (Option Value)} {k2d k2e k2f k2g h5u k2h : Value}
  (g4d : PySem.W.nsIn K mainGlobals "parts_of" = some (some (.ref b8o))) (g4e : K.lookup b8o = some ⟨k2d, k2a, .func (PySem.W.fnOf "parts_of" "parts_of" (a0v b7y) (a0u b7y) (a0h b7y) .none k2e k2f k2g k2b h5u k2h), k2c⟩) (g4f : PySem.W.codeIn K h5u "parts_of" = true) (g4g : PySem.W.keepIn K (.ref b8o) = true)
  {a8u : Addr} {i8a i8b : Option Addr} {i8c : Array (Option Value)} {i8d i8e i8f i8g g1q i8h : Value}
  (f2u : PySem.W.findIn K (.ref a5p) "__init__" = some (some (.ref a8u))) (f2v : K.lookup a8u = some ⟨i8d, i8a, .func (PySem.W.fnOf "__init__" "Chain.__init__" (a0v b0v) (a0u b0v) (a0h b0v) .none i8e i8f i8g i8b g1q i8h), i8c⟩) (f2w : PySem.W.codeIn K g1q "Chain.__init__" = true) (f2y : PySem.W.keepIn K (.ref a8u) = true)
  {a4r : Addr} {g9o g9p : Option Addr} {g9q : Array (Option Value)} {g9r g9s g9t g9u d7t g9v : Value}
  (c7l : PySem.W.findIn K (.ref a5p) "through" = some (some (.ref a4r))) (c7m : K.lookup a4r = some ⟨g9r, g9o, .func (PySem.W.fnOf "through" "Chain.through" (a0v a7z) (a0u a7z) (a0h a7z) .none g9s g9t g9u g9p d7t g9v), g9q⟩) (c7n : PySem.W.codeIn K d7t "Chain.through" = true) (b7h : PySem.W.keepIn K (.ref a4r) = true)
  {a6v : Addr} {h8q h8r : Option Addr} {h8s : Array (Option Value)} {h8t h8u h8v h8w f5h h8x : Value}
  (d5w : PySem.W.findIn K (.ref a5p) "grain" = some (some (.ref a6v))) (d5y : K.lookup a6v = some ⟨h8t, h8q, .func (PySem.W.fnOf "grain" "Chain.grain" (a0v b2n) (a0u b2n) (a0h b2n) .none h8u h8v h8w h8r f5h h8x), h8s⟩) (d5z : PySem.W.codeIn K f5h "Chain.grain" = true) (c3g : PySem.W.keepIn K (.ref a6v) = true)
  {a6w : Addr} {h8y h8z : Option Addr} {h9a : Array (Option Value)} {h9b h9c h9d h9e f5i h9f : Value}
  (d6g : PySem.W.findIn K (.ref a5p) "words" = some (some (.ref a6w))) (d6h : K.lookup a6w = some ⟨h9b, h8y, .func (PySem.W.fnOf "words" "Chain.words" (a0v a8z) (a0u a8z) (a0h a8z) .none h9c h9d h9e h8z f5i h9f), h9a⟩) (d6i : PySem.W.codeIn K f5i "Chain.words" = true) (c3h : PySem.W.keepIn K (.ref a6w) = true)
  {a9k : Addr} {h9g h9h : Option Addr} {h9i : Array (Option Value)} {h9j h9k h9l h9m f5j h9n : Value}
  (d6j : PySem.W.nsIn K mainGlobals "_law_cell_at" = some (some (.ref a9k))) (d6k : K.lookup a9k = some ⟨h9j, h9g, .func (PySem.W.fnOf "_law_cell_at" "_law_cell_at" (a0v b2o) (a0u b2o) (a0h b2o) .none h9k h9l h9m h9h f5j h9n), h9i⟩) (d6l : PySem.W.codeIn K f5j "_law_cell_at" = true) (d6m : PySem.W.keepIn K (.ref a9k) = true)
  {b3z : Addr} {j6d j6e : Option Addr} {j6f : Array (Option Value)} {j6g j6h j6i j6j g6k j6k : Value}
  (f9p : PySem.W.nsIn K mainGlobals "_law_whole" = some (some (.ref b3z))) (f9q : K.lookup b3z = some ⟨j6g, j6d, .func (PySem.W.fnOf "_law_whole" "_law_whole" (a0v b7z) (a0u b7z) (a0h b7z) .none j6h j6i j6j j6e g6k j6k), j6f⟩) (f9r : PySem.W.codeIn K g6k "_law_whole" = true) (f9s : PySem.W.keepIn K (.ref b3z) = true)
  {a9l : Addr} {h9o h9p : Option Addr} {h9q : Array (Option Value)} {h9r h9s h9t h9u f5k h9v : Value}
  (d6n : PySem.W.nsIn K mainGlobals "_law_divisor" = some (some (.ref a9l))) (d6o : K.lookup a9l = some ⟨h9r, h9o, .func (PySem.W.fnOf "_law_divisor" "_law_divisor" (a0v b2p) (a0u b2p) (a0h b2p) .none h9s h9t h9u h9p f5k h9v), h9q⟩) (d6p : PySem.W.codeIn K f5k "_law_divisor" = true) (d6q : PySem.W.keepIn K (.ref a9l) = true)
  {b8p : Addr} {k2i k2j : Option Addr} {k2k : Array (Option Value)} {k2l k2m k2n k2o h5v k2p : Value}
  (g4h : PySem.W.nsIn K mainGlobals "_law_gain" = some (some (.ref b8p))) (g4i : K.lookup b8p = some ⟨k2l, k2i, .func (PySem.W.fnOf "_law_gain" "_law_gain" (a0v c3p) (a0u c3p) (a0h c3p) .none k2m k2n k2o k2j h5v k2p), k2k⟩) (g4j : PySem.W.codeIn K h5v "_law_gain" = true) (g4k : PySem.W.keepIn K (.ref b8p) = true)
  {b1o : Addr} {i8i i8j : Option Addr} {i8k : Array (Option Value)} {i8l i8m i8n i8o g1r i8p : Value}
  (f2z : PySem.W.nsIn K mainGlobals "_law_weaker" = some (some (.ref b1o))) (f3g : K.lookup b1o = some ⟨i8l, i8i, .func (PySem.W.fnOf "_law_weaker" "_law_weaker" (a0v b4t) (a0u b4t) (a0h b4t) .none i8m i8n i8o i8j g1r i8p), i8k⟩) (f3h : PySem.W.codeIn K g1r "_law_weaker" = true) (f3i : PySem.W.keepIn K (.ref b1o) = true)
  {b4g : Addr} {j6l j6m : Option Addr} {j6n : Array (Option Value)} {j6o j6p j6q j6r g6l j6s : Value}
  (f9t : PySem.W.nsIn K mainGlobals "_law_swell" = some (some (.ref b4g))) (f9u : K.lookup b4g = some ⟨j6o, j6l, .func (PySem.W.fnOf "_law_swell" "_law_swell" (a0v b8g) (a0u b8g) (a0h b8g) .none j6p j6q j6r j6m g6l j6s), j6n⟩) (f9v : PySem.W.codeIn K g6l "_law_swell" = true) (f9w : PySem.W.keepIn K (.ref b4g) = true)
  {b8q : Addr} {k2q k2r : Option Addr} {k2s : Array (Option Value)} {k2t k2u k2v k2w h5w k2x : Value}
  (g4l : PySem.W.nsIn K mainGlobals "_law_word" = some (some (.ref b8q))) (g4m : K.lookup b8q = some ⟨k2t, k2q, .func (PySem.W.fnOf "_law_word" "_law_word" (a0v c3q) (a0u c3q) (a0h c3q) .none k2u k2v k2w k2r h5w k2x), k2s⟩) (g4n : PySem.W.codeIn K h5w "_law_word" = true) (g4o : PySem.W.keepIn K (.ref b8q) = true)
  {b8r : Addr} {k2y k2z : Option Addr} {k3a : Array (Option Value)} {k3b k3c k3d k3e h5x k3f : Value}
  (g4p : PySem.W.nsIn K mainGlobals "_law_tone" = some (some (.ref b8r))) (g4q : K.lookup b8r = some ⟨k3b, k2y, .func (PySem.W.fnOf "_law_tone" "_law_tone" (a0v c3r) (a0u c3r) (a0h c3r) .none k3c k3d k3e k2z h5x k3f), k3a⟩) (g4r : PySem.W.codeIn K h5x "_law_tone" = true) (g4s : PySem.W.keepIn K (.ref b8r) = true)
  {b8s : Addr} {k3g k3h : Option Addr} {k3i : Array (Option Value)} {k3j k3k k3l k3m h5y k3n : Value}
  (g4t : PySem.W.nsIn K mainGlobals "_law_cuts" = some (some (.ref b8s))) (g4u : K.lookup b8s = some ⟨k3j, k3g, .func (PySem.W.fnOf "_law_cuts" "_law_cuts" (a0v c3s) (a0u c3s) (a0h c3s) .none k3k k3l k3m k3h h5y k3n), k3i⟩) (g4v : PySem.W.codeIn K h5y "_law_cuts" = true) (g4w : PySem.W.keepIn K (.ref b8s) = true)
  {c4p : Addr} {l0v l0w : Option Addr} {l0x : Array (Option Value)} {l0y l0z l1a l1b i1t l1c : Value}
  (h5z : PySem.W.nsIn K mainGlobals "_law_due" = some (some (.ref c4p))) (h6a : K.lookup c4p = some ⟨l0y, l0v, .func (PySem.W.fnOf "_law_due" "_law_due" (a0v d1n) (a0u d1n) (a0h d1n) .none l0z l1a l1b l0w i1t l1c), l0x⟩) (h6b : PySem.W.codeIn K i1t "_law_due" = true) (h6c : PySem.W.keepIn K (.ref c4p) = true)
  {a5i : Addr} {g4x g4y : Option Addr} {g4z : Array (Option Value)} {g5a g5b g5c g5d d2m g5e : Value}
  (c1v : PySem.W.nsIn K mainGlobals "_law_words_told" = some (some (.ref a5i))) (c1w : K.lookup a5i = some ⟨g5a, g4x, .func (PySem.W.fnOf "_law_words_told" "_law_words_told" (a0v a6m) (a0u a6m) (a0h a6m) .none g5b g5c g5d g4y d2m g5e), g4z⟩) (c1y : PySem.W.codeIn K d2m "_law_words_told" = true) (c1z : PySem.W.keepIn K (.ref a5i) = true)
  {a9m : Addr} {h9w h9x : Option Addr} {h9y : Array (Option Value)} {h9z i0a i0b i0c f5l i0d : Value}
  (d6r : PySem.W.nsIn K mainGlobals "_law_is_told" = some (some (.ref a9m))) (d6s : K.lookup a9m = some ⟨h9z, h9w, .func (PySem.W.fnOf "_law_is_told" "_law_is_told" (a0v b2q) (a0u b2q) (a0h b2q) .none i0a i0b i0c h9x f5l i0d), h9y⟩) (d6t : PySem.W.codeIn K f5l "_law_is_told" = true) (d6u : PySem.W.keepIn K (.ref a9m) = true)
  {b1p : Addr} {i8q i8r : Option Addr} {i8s : Array (Option Value)} {i8t i8u i8v i8w g1s i8x : Value}
  (f3j : PySem.W.nsIn K mainGlobals "_law_joined" = some (some (.ref b1p))) (f3k : K.lookup b1p = some ⟨i8t, i8q, .func (PySem.W.fnOf "_law_joined" "_law_joined" (a0v a8o) (a0u a8o) (a0h a8o) .none i8u i8v i8w i8r g1s i8x), i8s⟩) (f3l : PySem.W.codeIn K g1s "_law_joined" = true) (f3m : PySem.W.keepIn K (.ref b1p) = true)
  {b8u : Addr} {k3o k3p : Option Addr} {k3q : Array (Option Value)} {k3r k3s k3t k3u h6d k3v : Value}
  (g5f : PySem.W.nsIn K mainGlobals "_law_same" = some (some (.ref b8u))) (g5g : K.lookup b8u = some ⟨k3r, k3o, .func (PySem.W.fnOf "_law_same" "_law_same" (a0v c3t) (a0u c3t) (a0h c3t) .none k3s k3t k3u k3p h6d k3v), k3q⟩) (g5h : PySem.W.codeIn K h6d "_law_same" = true) (g5i : PySem.W.keepIn K (.ref b8u) = true)
  {j7u : Addr} {m9u m9v : Option Addr} {m9w : Array (Option Value)} {m9x m9y m9z n0a m0z n0b : Value}
  (l9p : PySem.W.nsIn K mainGlobals "law" = some (some (.ref j7u))) (m4v : K.lookup j7u = some ⟨m9x, m9u, .func (PySem.W.fnOf "law" "law" (a0v j0e) (a0u j0e) (a0h j0e) .none m9y m9z n0a m9v m0z n0b), m9w⟩) (m4w : PySem.W.codeIn K m0z "law" = true) (m4x : PySem.W.keepIn K (.ref j7u) = true)
  (g6r : PySem.W.nsIn K mainGlobals "abs" = some none)
  (i0s : PySem.W.nsIn K mainGlobals "bool" = some none)
  (c5j : PySem.W.nsIn K mainGlobals "enumerate" = some none)
  (h6o : PySem.W.nsIn K mainGlobals "int" = some none)
  (a3k : PySem.W.nsIn K mainGlobals "isinstance" = some none)
  (b3i : PySem.W.nsIn K mainGlobals "len" = some none)
  (b3j : PySem.W.nsIn K mainGlobals "list" = some none)
  (k6v : PySem.W.nsIn K mainGlobals "max" = some none)
  (l3r : PySem.W.nsIn K mainGlobals "min" = some none)
  (c1r : PySem.W.nsIn K mainGlobals "range" = some none)
  (f4j : PySem.W.nsIn K mainGlobals "str" = some none)
  (d3y : PySem.W.nsIn K mainGlobals "tuple" = some none)
  (j0q : PySem.W.nsIn K mainGlobals "zip" = some none)
  {t_FIGURES : Tok}
  {t_MOST_FIGURES_wholes : Tok}
  {t_MOST_FIGURES_ratios : Tok}
  {t_MOST_GAIN : Tok}
  {t_MOST_MANY : Tok}
  {t_MOST_TURNS : Tok}
  {t_MOST_AT : Tok}
  {t_MOST_CORNERS : Tok}
  {t_MOST_PARTS : Tok}
  {a2s : Addr} {es_READERS : Array DictEntry} {n_READERS : Nat}
  (cl_Part_pg : PySem.W.plainGet K d7i Str.empty = true)
  (cl_Part_hd : PySem.W.hasDictIn K d7i = true)
  (cl_Part_po : PySem.W.plainOver K d7i = true)
  (cl_Part_sa : PySem.W.findIn K (.ref d7i) "__setattr__" = some (some (.builtin "object.__setattr__")))
  (me_Part_grain_fn : PySem.W.isFn K (.ref a3i) = true)
  (me_Part_fresh_fn : PySem.W.isFn K (.ref a2h) = true)
  (cl_Gain_pg : PySem.W.plainGet K a5k Str.empty = true)
  (cl_Gain_hd : PySem.W.hasDictIn K a5k = true)
  (cl_Gain_po : PySem.W.plainOver K a5k = true)
  (cl_Gain_sa : PySem.W.findIn K (.ref a5k) "__setattr__" = some (some (.builtin "object.__setattr__")))
  (a1t : PySem.W.findIn K (.ref a5k) "gain" = some none)
  (me_Gain___init___fn : PySem.W.isFn K (.ref b1g) = true)
  (mk_Gain_ma : PySem.W.makesIn K a5k = true)
  (mk_Gain_kp : PySem.W.keepIn K (.ref a5k) = true)
  (me_Gain_grain_fn : PySem.W.isFn K (.ref a6r) = true)
  (me_Gain_through_fn : PySem.W.isFn K (.ref a4i) = true)
  (me_Gain_word_fn : PySem.W.isFn K (.ref b1h) = true)
  (me_Gain_fresh_at : PySem.W.findIn K (.ref a5k) "fresh" = some (some (.ref a2h)))
  (me_Gain_fresh_fn : PySem.W.isFn K (.ref a2h) = true)
  (cl_Delay_pg : PySem.W.plainGet K a3m Str.empty = true)
  (cl_Delay_hd : PySem.W.hasDictIn K a3m = true)
  (cl_Delay_po : PySem.W.plainOver K a3m = true)
  (cl_Delay_sa : PySem.W.findIn K (.ref a3m) "__setattr__" = some (some (.builtin "object.__setattr__")))
  (a1q : PySem.W.findIn K (.ref a3m) "many" = some none)
  (me_Delay___init___fn : PySem.W.isFn K (.ref a8p) = true)
  (mk_Delay_ma : PySem.W.makesIn K a3m = true)
  (mk_Delay_kp : PySem.W.keepIn K (.ref a3m) = true)
  (me_Delay_through_fn : PySem.W.isFn K (.ref a3s) = true)
  (me_Delay_word_fn : PySem.W.isFn K (.ref a8q) = true)
  (me_Delay_grain_at : PySem.W.findIn K (.ref a3m) "grain" = some (some (.ref a3i)))
  (me_Delay_grain_fn : PySem.W.isFn K (.ref a3i) = true)
  (me_Delay_fresh_at : PySem.W.findIn K (.ref a3m) "fresh" = some (some (.ref a2h)))
  (me_Delay_fresh_fn : PySem.W.isFn K (.ref a2h) = true)
  (cl_Echo_pg : PySem.W.plainGet K a3j Str.empty = true)
  (cl_Echo_hd : PySem.W.hasDictIn K a3j = true)
  (cl_Echo_po : PySem.W.plainOver K a3j = true)
  (cl_Echo_sa : PySem.W.findIn K (.ref a3j) "__setattr__" = some (some (.builtin "object.__setattr__")))
  (a1m : PySem.W.findIn K (.ref a3j) "gain" = some none)
  (a1n : PySem.W.findIn K (.ref a3j) "many" = some none)
  (a1l : PySem.W.findIn K (.ref a3j) "turns" = some none)
  (a0w : PySem.W.findIn K (.ref a3j) "factors" = some none)
  (a0m : PySem.W.findIn K (.ref a3j) "factor_bottom" = some none)
  (me_Echo___init___fn : PySem.W.isFn K (.ref b1i) = true)
  (mk_Echo_ma : PySem.W.makesIn K a3j = true)
  (mk_Echo_kp : PySem.W.keepIn K (.ref a3j) = true)
  (me_Echo_grain_fn : PySem.W.isFn K (.ref a6s) = true)
  (me_Echo_through_fn : PySem.W.isFn K (.ref a4j) = true)
  (me_Echo_reach_fn : PySem.W.isFn K (.ref a8r) = true)
  (me_Echo_word_fn : PySem.W.isFn K (.ref b1j) = true)
  (me_Echo_fresh_at : PySem.W.findIn K (.ref a3j) "fresh" = some (some (.ref a2h)))
  (me_Echo_fresh_fn : PySem.W.isFn K (.ref a2h) = true)
  (cl_Back_pg : PySem.W.plainGet K a4s Str.empty = true)
  (cl_Back_hd : PySem.W.hasDictIn K a4s = true)
  (cl_Back_po : PySem.W.plainOver K a4s = true)
  (cl_Back_sa : PySem.W.findIn K (.ref a4s) "__setattr__" = some (some (.builtin "object.__setattr__")))
  (a1u : PySem.W.findIn K (.ref a4s) "gain" = some none)
  (a1v : PySem.W.findIn K (.ref a4s) "many" = some none)
  (me_Back___init___fn : PySem.W.isFn K (.ref b1k) = true)
  (mk_Back_ma : PySem.W.makesIn K a4s = true)
  (mk_Back_kp : PySem.W.keepIn K (.ref a4s) = true)
  (me_Back_grain_fn : PySem.W.isFn K (.ref a6t) = true)
  (me_Back_through_fn : PySem.W.isFn K (.ref a4k) = true)
  (me_Back_word_fn : PySem.W.isFn K (.ref b1l) = true)
  (me_Back_fresh_at : PySem.W.findIn K (.ref a4s) "fresh" = some (some (.ref a2h)))
  (me_Back_fresh_fn : PySem.W.isFn K (.ref a2h) = true)
  (cl_Hall_pg : PySem.W.plainGet K a4y Str.empty = true)
  (cl_Hall_hd : PySem.W.hasDictIn K a4y = true)
  (cl_Hall_po : PySem.W.plainOver K a4y = true)
  (cl_Hall_sa : PySem.W.findIn K (.ref a4y) "__setattr__" = some (some (.builtin "object.__setattr__")))
  (a1y : PySem.W.findIn K (.ref a4y) "gain" = some none)
  (a1z : PySem.W.findIn K (.ref a4y) "many" = some none)
  (me_Hall___init___fn : PySem.W.isFn K (.ref b1m) = true)
  (mk_Hall_ma : PySem.W.makesIn K a4y = true)
  (mk_Hall_kp : PySem.W.keepIn K (.ref a4y) = true)
  (me_Hall_through_fn : PySem.W.isFn K (.ref a4l) = true)
  (me_Hall_word_fn : PySem.W.isFn K (.ref b1n) = true)
  (me_Hall_grain_at : PySem.W.findIn K (.ref a4y) "grain" = some (some (.ref a3i)))
  (me_Hall_grain_fn : PySem.W.isFn K (.ref a3i) = true)
  (me_Hall_fresh_at : PySem.W.findIn K (.ref a4y) "fresh" = some (some (.ref a2h)))
  (me_Hall_fresh_fn : PySem.W.isFn K (.ref a2h) = true)
  (cl_Swell_pg : PySem.W.plainGet K a2n Str.empty = true)
  (cl_Swell_hd : PySem.W.hasDictIn K a2n = true)
  (cl_Swell_po : PySem.W.plainOver K a2n = true)
  (cl_Swell_sa : PySem.W.findIn K (.ref a2n) "__setattr__" = some (some (.builtin "object.__setattr__")))
  (a0q : PySem.W.findIn K (.ref a2n) "corners" = some none)
  (a0s : PySem.W.findIn K (.ref a2n) "shared" = some none)
  (a1g : PySem.W.findIn K (.ref a2n) "lines" = some none)
  (me_Swell___init___fn : PySem.W.isFn K (.ref a8s) = true)
  (mk_Swell_ma : PySem.W.makesIn K a2n = true)
  (mk_Swell_kp : PySem.W.keepIn K (.ref a2n) = true)
  (me_Swell_grain_fn : PySem.W.isFn K (.ref a5o) = true)
  (me_Swell_fresh_fn : PySem.W.isFn K (.ref a6u) = true)
  (me_Swell_line_at_fn : PySem.W.isFn K (.ref a4p) = true)
  (me_Swell_gain_at_fn : PySem.W.isFn K (.ref a4q) = true)
  (me_Swell_through_fn : PySem.W.isFn K (.ref a3t) = true)
  (me_Swell_word_fn : PySem.W.isFn K (.ref a8t) = true)
  (cl_Chain_pg : PySem.W.plainGet K a5p Str.empty = true)
  (cl_Chain_hd : PySem.W.hasDictIn K a5p = true)
  (cl_Chain_po : PySem.W.plainOver K a5p = true)
  (cl_Chain_sa : PySem.W.findIn K (.ref a5p) "__setattr__" = some (some (.builtin "object.__setattr__")))
  (a2j : PySem.W.findIn K (.ref a5p) "parts" = some none)
  (a1w : PySem.W.findIn K (.ref a5p) "states" = some none)
  (me_Chain___init___fn : PySem.W.isFn K (.ref a8u) = true)
  (mk_Chain_ma : PySem.W.makesIn K a5p = true)
  (mk_Chain_kp : PySem.W.keepIn K (.ref a5p) = true)
  (me_Chain_through_fn : PySem.W.isFn K (.ref a4r) = true)
  (me_Chain_grain_fn : PySem.W.isFn K (.ref a6v) = true)
  (me_Chain_words_fn : PySem.W.isFn K (.ref a6w) = true)
  (d2h : PySem.W.nsIn K mainGlobals "FIGURES" = some (some (.str "0123456789" t_FIGURES)))
  (a4g : PySem.W.nsIn K mainGlobals "MOST_FIGURES_wholes" = some (some (.int 13 t_MOST_FIGURES_wholes)))
  (a4h : PySem.W.nsIn K mainGlobals "MOST_FIGURES_ratios" = some (some (.int 9 t_MOST_FIGURES_ratios)))
  (b5i : PySem.W.nsIn K mainGlobals "MOST_GAIN" = some (some (.int 1000 t_MOST_GAIN)))
  (b5j : PySem.W.nsIn K mainGlobals "MOST_MANY" = some (some (.int 1000 t_MOST_MANY)))
  (b6u : PySem.W.nsIn K mainGlobals "MOST_TURNS" = some (some (.int 16 t_MOST_TURNS)))
  (d2i : PySem.W.nsIn K mainGlobals "MOST_AT" = some (some (.int 100000 t_MOST_AT)))
  (b1u : PySem.W.nsIn K mainGlobals "MOST_CORNERS" = some (some (.int 12 t_MOST_CORNERS)))
  (b6v : PySem.W.nsIn K mainGlobals "MOST_PARTS" = some (some (.int 8 t_MOST_PARTS)))
  (a8i : PySem.W.nsIn K mainGlobals "READERS" = some (some (.ref a2s)))
  (ld_READERS : K.lookup a2s = some ⟨.type "dict", none, .dict es_READERS n_READERS, #[]⟩)
  (kd_READERS : PySem.W.KeysLit w.params es_READERS.toList)
  (nd_READERS : (a2s == sysModules) = false)
  (a8j : PySem.W.nsIn K a2s "gain" = some (some (.ref b5z)))
  (a6o : PySem.W.nsIn K a2s "delay" = some (some (.ref b2s)))
  (a8k : PySem.W.nsIn K a2s "echo" = some (some (.ref b6g)))
  (a8l : PySem.W.nsIn K a2s "back" = some (some (.ref b6h)))
  (a6p : PySem.W.nsIn K a2s "swell" = some (some (.ref b2t)))
  (a8m : PySem.W.nsIn K a2s "hall" = some (some (.ref b6i)))
  : ∃ fd : FuncData, (∀ (s : Shared) (v : Value), BindsTo s fd ⟨[v], []⟩ [("_law_script", v)]) ∧ ∀ base : Heap, K.In base → base.Ns mainGlobals mg → a1s l.prog w K mg base CX0 14 fa fd ["_law_script"] (j7b 63 K) := by
 have e := hfa.symm.trans (PySem.W.mg_of X G l9p)
 cases e
 have c3w := a1r (st := c3j) g3c g3d g3e
 have f3r := c3w.binds (ps := ["value"]) fun _ _ _ _ _ _ us hl => match us, hl with | [_], _ => rfl
 have b4u := a1r (st := b4k) f0p f0q f0r
 have c7t := b4u.binds (ps := ["text"]) fun _ _ _ _ _ _ us hl => match us, hl with | [_], _ => rfl
 have d1o := a1r (st := c3k) g3g g3h g3i
 have g2j := d1o.binds (ps := ["text"]) fun _ _ _ _ _ _ us hl => match us, hl with | [_], _ => rfl
 have d1p := a1r (st := d0z) h2z h3a h3b
 have g0n := d1p.binds (ps := ["one", "other"]) fun _ _ _ _ _ _ us hl => match us, hl with | [_, _], _ => rfl
 have d1q := a1r (st := c3l) g3k g3l g3m
 have g2k := d1q.binds (ps := ["one", "other"]) fun _ _ _ _ _ _ us hl => match us, hl with | [_, _], _ => rfl
 have b8v := a1r (st := c3m) g3o g3p g3q
 have d1r := b8v.binds (ps := ["top", "bottom"]) fun _ _ _ _ _ _ us hl => match us, hl with | [_, _], _ => rfl
 have j0o := a1r (st := i0l) l5z l6a l6b
 have l3m := j0o.binds (ps := ["one", "other"]) fun _ _ _ _ _ _ us hl => match us, hl with | [_, _], _ => rfl
 have g2m := a1r (st := g1z) k0z k1a k1b
 have i2w := g2m.binds (ps := ["one", "other"]) fun _ _ _ _ _ _ us hl => match us, hl with | [_, _], _ => rfl
 have d9k := a1r (st := d1g) h3f h3g h3h
 have h1h := d9k.binds (ps := ["one"]) fun _ _ _ _ _ _ us hl => match us, hl with | [_], _ => rfl
 have d1s := a1r (st := c3n) g3s g3t g3u
 have g2n := d1s.binds (ps := ["one", "other"]) fun _ _ _ _ _ _ us hl => match us, hl with | [_, _], _ => rfl
 have a2z := a1r (st := a7r) c5w c5y c5z
 have a4t := a2z.binds (ps := ["one"]) fun _ _ _ _ _ _ us hl => match us, hl with | [_], _ => rfl
 have b1q := a1r (st := a7s) c6h c6i c6j
 have c4q := b1q.binds (ps := ["text"]) fun _ _ _ _ _ _ us hl => match us, hl with | [_], _ => rfl
 have b4v := a1r (st := b0t) f0t f0u f0v
 have c7u := b4v.binds (ps := ["one", "other"]) fun _ _ _ _ _ _ us hl => match us, hl with | [_, _], _ => rfl
 have b1r := a1r (st := b3r) f7g f7h f7i
 have b8w := b1r.binds (ps := ["row", "by"]) fun _ _ _ _ _ _ us hl => match us, hl with | [_, _], _ => rfl
 have c4r := a1r (st := c4j) h3k h3l h3m
 have d9l := c4r.binds (ps := ["known", "start", "many"]) fun _ _ _ _ _ _ us hl => match us, hl with | [_, _, _], _ => rfl
 have c0v := a1r (st := d1h) h3o h3p h3q
 have d1t := c0v.binds (ps := ["known", "many"]) fun _ _ _ _ _ _ us hl => match us, hl with | [_, _], _ => rfl
 have c7v := a1r (st := b4l) f0y f0z b5m
 have a5r := c7v.binds (ps := ["self"]) fun _ _ _ _ _ _ us hl => match us, hl with | [_], _ => rfl
 have c7w := a1r (st := b4m) f1h f1i a7i
 have a0z := c7w.binds (ps := ["self"]) fun _ _ _ _ _ _ us hl => match us, hl with | [_], _ => rfl
 have d3j := a1r (st := b7l) f7k f7l f7m
 have f6k := d3j.binds (ps := ["self", "gain"]) fun _ _ _ _ _ _ us hl => match us, hl with | [_, _], _ => rfl
 have c7y := a1r (st := b4n) f1k f1l c8q
 have b4w := c7y.binds (ps := ["self"]) fun _ _ _ _ _ _ us hl => match us, hl with | [_], _ => rfl
 have b9n := a1r (st := b0j) d0i d0j b9y
 have b9o := b9n.binds (ps := ["self", "state", "tops", "bottom"]) fun _ _ _ _ _ _ us hl => match us, hl with | [_, _, _, _], _ => rfl
 have d3k := a1r (st := b7m) f7o f7p d4p
 have f6l := d3k.binds (ps := ["self"]) fun _ _ _ _ _ _ us hl => match us, hl with | [_], _ => rfl
 have c7z := a1r (st := b4o) f1o f1p f1q
 have d9m := c7z.binds (ps := ["self", "many"]) fun _ _ _ _ _ _ us hl => match us, hl with | [_, _], _ => rfl
 have b6j := a1r (st := a7t) c6l c6m b6w
 have b6k := b6j.binds (ps := ["self", "state", "tops", "bottom"]) fun _ _ _ _ _ _ us hl => match us, hl with | [_, _, _, _], _ => rfl
 have c8g := a1r (st := b4p) f1s f1t c8r
 have d9n := c8g.binds (ps := ["self"]) fun _ _ _ _ _ _ us hl => match us, hl with | [_], _ => rfl
 have b8y := a1r (st := b7n) f7r f7s f7t
 have d3l := b8y.binds (ps := ["number", "most"]) fun _ _ _ _ _ _ us hl => match us, hl with | [_, _], _ => rfl
 have b1s := a1r (st := a7u) c6o c6p c6q
 have c4s := b1s.binds (ps := ["top", "bottom"]) fun _ _ _ _ _ _ us hl => match us, hl with | [_, _], _ => rfl
 have d3m := a1r (st := b3s) f7v f7w f7y
 have f6m := d3m.binds (ps := ["self", "gain", "many", "turns"]) fun _ _ _ _ _ _ us hl => match us, hl with | [_, _, _, _], _ => rfl
 have c8h := a1r (st := b4q) f1v f1w c8s
 have b4y := c8h.binds (ps := ["self"]) fun _ _ _ _ _ _ us hl => match us, hl with | [_], _ => rfl
 have b9p := a1r (st := b0k) d0l d0m b9z
 have b9q := b9p.binds (ps := ["self", "state", "tops", "bottom"]) fun _ _ _ _ _ _ us hl => match us, hl with | [_, _, _, _], _ => rfl
 have c8i := a1r (st := b4r) f2g f2h c8t
 have d9o := c8i.binds (ps := ["self"]) fun _ _ _ _ _ _ us hl => match us, hl with | [_], _ => rfl
 have d3n := a1r (st := b7o) f8g f8h d4q
 have f6n := d3n.binds (ps := ["self"]) fun _ _ _ _ _ _ us hl => match us, hl with | [_], _ => rfl
 have d3o := a1r (st := b7p) f8j f8k f8l
 have f6o := d3o.binds (ps := ["self", "gain", "many"]) fun _ _ _ _ _ _ us hl => match us, hl with | [_, _, _], _ => rfl
 have c8j := a1r (st := b4s) f2j f2k c8u
 have b4z := c8j.binds (ps := ["self"]) fun _ _ _ _ _ _ us hl => match us, hl with | [_], _ => rfl
 have b9r := a1r (st := b0l) d0o d0p c0g
 have b9s := b9r.binds (ps := ["self", "state", "tops", "bottom"]) fun _ _ _ _ _ _ us hl => match us, hl with | [_, _, _, _], _ => rfl
 have d3p := a1r (st := b7q) f8n f8o d4r
 have f6p := d3p.binds (ps := ["self"]) fun _ _ _ _ _ _ us hl => match us, hl with | [_], _ => rfl
 have d3q := a1r (st := b7r) f8q f8r f8s
 have f6q := d3q.binds (ps := ["self", "gain", "many"]) fun _ _ _ _ _ _ us hl => match us, hl with | [_, _, _], _ => rfl
 have b9t := a1r (st := b0m) d0r d0s c0h
 have b9u := b9t.binds (ps := ["self", "state", "tops", "bottom"]) fun _ _ _ _ _ _ us hl => match us, hl with | [_, _, _, _], _ => rfl
 have d3r := a1r (st := b7s) f8u f8v d4s
 have f6r := d3r.binds (ps := ["self"]) fun _ _ _ _ _ _ us hl => match us, hl with | [_], _ => rfl
 have b1t := a1r (st := a7v) c6s c6t c6u
 have c4t := b1t.binds (ps := ["bottoms"]) fun _ _ _ _ _ _ us hl => match us, hl with | [_], _ => rfl
 have c4u := a1r (st := b7t) f8y f8z f9g
 have f6s := c4u.binds (ps := ["corners"]) fun _ _ _ _ _ _ us hl => match us, hl with | [_], _ => rfl
 have i0q := a1r (st := i0m) l6e l6f l6g
 have k4o := i0q.binds (ps := ["one", "bottom"]) fun _ _ _ _ _ _ us hl => match us, hl with | [_, _], _ => rfl
 have b6l := a1r (st := b2g) d4u d4v d4w
 have d3s := b6l.binds (ps := ["corner"]) fun _ _ _ _ _ _ us hl => match us, hl with | [_], _ => rfl
 have c8k := a1r (st := a6q) f2o f2p f2q
 have d9p := c8k.binds (ps := ["self", "corners"]) fun _ _ _ _ _ _ us hl => match us, hl with | [_, _], _ => rfl
 have c2k := a1r (st := b2h) d4z d5g c2y
 have b2u := c2k.binds (ps := ["self"]) fun _ _ _ _ _ _ us hl => match us, hl with | [_], _ => rfl
 have c2l := a1r (st := b2j) d5i d5j c2z
 have a5q := c2l.binds (ps := ["self"]) fun _ _ _ _ _ _ us hl => match us, hl with | [_], _ => rfl
 have b6m := a1r (st := a7w) c6w c6y b6y
 have c4v := b6m.binds (ps := ["self", "at"]) fun _ _ _ _ _ _ us hl => match us, hl with | [_, _], _ => rfl
 have b6n := a1r (st := a7y) c7g c7h b6z
 have c4w := b6n.binds (ps := ["self", "at"]) fun _ _ _ _ _ _ us hl => match us, hl with | [_, _], _ => rfl
 have b6o := a1r (st := a5w) c7j c7k b7g
 have b6p := b6o.binds (ps := ["self", "state", "tops", "bottom"]) fun _ _ _ _ _ _ us hl => match us, hl with | [_, _, _, _], _ => rfl
 have c8l := a1r (st := b0u) f2s f2t c8v
 have d9q := c8l.binds (ps := ["self"]) fun _ _ _ _ _ _ us hl => match us, hl with | [_], _ => rfl
 have a9n := a1r (st := b7u) f9i f9j f9k
 have b4h := a9n.binds (ps := ["text"]) fun _ _ _ _ _ _ us hl => match us, hl with | [_], _ => rfl
 have a6y := a1r (st := b2k) d5l d5m d5n
 have b2v := a6y.binds (ps := ["text", "least", "most"]) fun _ _ _ _ _ _ us hl => match us, hl with | [_, _, _], _ => rfl
 have b4i := a1r (st := b7v) f9m f9n f9o
 have c4z := b4i.binds (ps := ["text"]) fun _ _ _ _ _ _ us hl => match us, hl with | [_], _ => rfl
 have a4m := a1r (st := b2l) d5p d5q d5r
 have a6z := a4m.binds (ps := ["values", "count"]) fun _ _ _ _ _ _ us hl => match us, hl with | [_, _], _ => rfl
 have d9r := a1r (st := d1i) h4z h5a h5b
 have h1p := d9r.binds (ps := ["values"]) fun _ _ _ _ _ _ us hl => match us, hl with | [_], _ => rfl
 have d1u := a1r (st := c3o) g3w g3x g3y
 have g2o := d1u.binds (ps := ["values"]) fun _ _ _ _ _ _ us hl => match us, hl with | [_], _ => rfl
 have d9s := a1r (st := d1j) h5e h5f h5g
 have h1q := d9s.binds (ps := ["values"]) fun _ _ _ _ _ _ us hl => match us, hl with | [_], _ => rfl
 have d9t := a1r (st := d1k) h5i h5j h5k
 have h1r := d9t.binds (ps := ["values"]) fun _ _ _ _ _ _ us hl => match us, hl with | [_], _ => rfl
 have d9u := a1r (st := d1l) h5m h5n h5o
 have h1s := d9u.binds (ps := ["values"]) fun _ _ _ _ _ _ us hl => match us, hl with | [_], _ => rfl
 have b6q := a1r (st := b2m) d5t d5u d5v
 have d3t := b6q.binds (ps := ["text"]) fun _ _ _ _ _ _ us hl => match us, hl with | [_], _ => rfl
 have d1v := a1r (st := b7w) g4a g4b g4c
 have g2p := d1v.binds (ps := ["values"]) fun _ _ _ _ _ _ us hl => match us, hl with | [_], _ => rfl
 have b0h := a1r (st := d1m) h5r h5s h5t
 have b3h := b0h.binds (ps := ["word"]) fun _ _ _ _ _ _ us hl => match us, hl with | [_], _ => rfl
 have d1w := a1r (st := b7y) g4e g4f g4g
 have g2q := d1w.binds (ps := ["words"]) fun _ _ _ _ _ _ us hl => match us, hl with | [_], _ => rfl
 have c8m := a1r (st := b0v) f2v f2w f2y
 have c8n := c8m.binds (ps := ["self", "words"]) fun _ _ _ _ _ _ us hl => match us, hl with | [_, _], _ => rfl
 have b6r := a1r (st := a7z) c7m c7n b7h
 have c5g := b6r.binds (ps := ["self", "tops", "bottom"]) fun _ _ _ _ _ _ us hl => match us, hl with | [_, _, _], _ => rfl
 have c2n := a1r (st := b2n) d5y d5z c3g
 have d3u := c2n.binds (ps := ["self"]) fun _ _ _ _ _ _ us hl => match us, hl with | [_], _ => rfl
 have c2o := a1r (st := a8z) d6h d6i c3h
 have c2p := c2o.binds (ps := ["self"]) fun _ _ _ _ _ _ us hl => match us, hl with | [_], _ => rfl
 have a9o := a1r (st := b2o) d6k d6l d6m
 have b6s := a9o.binds (ps := ["_law_script", "_law_k"]) fun _ _ _ _ _ _ us hl => match us, hl with | [_, _], _ => rfl
 have b4j := a1r (st := b7z) f9q f9r f9s
 have c5h := b4j.binds (ps := ["_law_found"]) fun _ _ _ _ _ _ us hl => match us, hl with | [_], _ => rfl
 have b2y := a1r (st := b2p) d6o d6p d6q
 have c2q := b2y.binds (ps := ["_law_one", "_law_other"]) fun _ _ _ _ _ _ us hl => match us, hl with | [_, _], _ => rfl
 have b5g := a1r (st := c3p) g4i g4j g4k
 have c3y := b5g.binds (ps := ["_law_mixed", "_law_great"]) fun _ _ _ _ _ _ us hl => match us, hl with | [_, _], _ => rfl
 have c0y := a1r (st := b4t) f3g f3h f3i
 have d9v := c0y.binds (ps := ["_law_mixed", "_law_great"]) fun _ _ _ _ _ _ us hl => match us, hl with | [_, _], _ => rfl
 have c5i := a1r (st := b8g) f9u f9v f9w
 have f6v := c5i.binds (ps := ["_law_mixed", "_law_great"]) fun _ _ _ _ _ _ us hl => match us, hl with | [_, _], _ => rfl
 have d1y := a1r (st := c3q) g4m g4n g4o
 have g2r := d1y.binds (ps := ["_law_cell", "_law_great"]) fun _ _ _ _ _ _ us hl => match us, hl with | [_, _], _ => rfl
 have d1z := a1r (st := c3r) g4q g4r g4s
 have g2s := d1z.binds (ps := ["_law_cell"]) fun _ _ _ _ _ _ us hl => match us, hl with | [_], _ => rfl
 have d2g := a1r (st := c3s) g4u g4v g4w
 have g2t := d2g.binds (ps := ["_law_row", "_law_cells"]) fun _ _ _ _ _ _ us hl => match us, hl with | [_, _], _ => rfl
 have d9w := a1r (st := d1n) h6a h6b h6c
 have h1t := d9w.binds (ps := ["_law_words", "_law_tops", "_law_bottom"]) fun _ _ _ _ _ _ us hl => match us, hl with | [_, _, _], _ => rfl
 have a5j := a1r (st := a6m) c1w c1y c1z
 have b0i := a5j.binds (ps := ["_law_chain", "_law_words"]) fun _ _ _ _ _ _ us hl => match us, hl with | [_, _], _ => rfl
 have b6t := a1r (st := b2q) d6s d6t d6u
 have d3w := b6t.binds (ps := ["_law_told", "_law_block"]) fun _ _ _ _ _ _ us hl => match us, hl with | [_, _], _ => rfl
 have b5h := a1r (st := a8o) f3k f3l f3m
 have c8o := b5h.binds (ps := ["_law_chain", "_law_blocks", "_law_bottom"]) fun _ _ _ _ _ _ us hl => match us, hl with | [_, _, _], _ => rfl
 have c3z := a1r (st := c3t) g5g g5h g5i
 have f3t := c3z.binds (ps := ["_law_joined_here", "_law_due_here"]) fun _ _ _ _ _ _ us hl => match us, hl with | [_, _], _ => rfl
 have l8d := a1r (st := j0e) m4v m4w m4x
 have m8l := l8d.binds (ps := ["_law_script"]) fun _ _ _ _ _ _ us hl => match us, hl with | [_], _ => rfl
 have T : Tx K mg ⟨_, _, _, _, _, _, _, _, _, _, _, _, _, _, _, _, _, _, _, _, _, _, _, _, _, _, _, _, _, _, _, _, _, _, _, _, _, _, _, _, _, _, _, _, _, _, _, _, _, _, _, _, _, _, _, _, _, _, _, _, _, _, _, _, _, _, _, _, _, _, _, _, _, _, _, _, _, _, _, _, _, _, _, _, _, _, _, _, _, _, _, _, _, _, _, _, _, _, _, _, _, _, _, _, _, _, _, _, _, _, _, _, _, _, _, _, _, _, _, _, _, _, _, _, _, _, _, _, _, _, _, _, _, _, _, _, _, _, _, _, _, _, _, _, _, _, _, _, _, _, _, _, _, _, _, _, _, _, _, _, _, _, _, _, _, _, _, _, _, _, _, _, _, _, _, _, _, _, _, _, _, _, w⟩ := ⟨c3w, f3r, PySem.W.mg_of X G g3b, b4u, c7t, PySem.W.mg_of X G f0o, d1o, g2j, PySem.W.mg_of X G g3f, d1p, g0n, PySem.W.mg_of X G h2y, d1q, g2k, PySem.W.mg_of X G g3j, b8v, d1r, PySem.W.mg_of X G g3n, j0o, l3m, PySem.W.mg_of X G l5y, g2m, i2w, PySem.W.mg_of X G k0y, d9k, h1h, PySem.W.mg_of X G h3e, d1s, g2n, PySem.W.mg_of X G g3r, a2z, a4t, PySem.W.mg_of X G c5v, b1q, c4q, PySem.W.mg_of X G c6g, b4v, c7u, PySem.W.mg_of X G f0s, b1r, b8w, PySem.W.mg_of X G f6z, c4r, d9l, PySem.W.mg_of X G h3j, c0v, d1t, PySem.W.mg_of X G h3n, c7v, a5r, c7w, a0z, d3j, f6k, c7y, b4w, b9n, b9o, d3k, f6l, c7z, d9m, b6j, b6k, c8g, d9n, b8y, d3l, PySem.W.mg_of X G f7q, b1s, c4s, PySem.W.mg_of X G c6n, d3m, f6m, c8h, b4y, b9p, b9q, c8i, d9o, d3n, f6n, d3o, f6o, c8j, b4z, b9r, b9s, d3p, f6p, d3q, f6q, b9t, b9u, d3r, f6r, b1t, c4t, PySem.W.mg_of X G c6r, c4u, f6s, PySem.W.mg_of X G f8w, i0q, k4o, PySem.W.mg_of X G l6d, b6l, d3s, PySem.W.mg_of X G d4t, c8k, d9p, c2k, b2u, c2l, a5q, b6m, c4v, b6n, c4w, b6o, b6p, c8l, d9q, a9n, b4h, PySem.W.mg_of X G f9h, a6y, b2v, PySem.W.mg_of X G d5k, b4i, c4z, PySem.W.mg_of X G f9l, a4m, a6z, PySem.W.mg_of X G d5o, d9r, h1p, PySem.W.mg_of X G h4y, d1u, g2o, PySem.W.mg_of X G g3v, d9s, h1q, PySem.W.mg_of X G h5d, d9t, h1r, PySem.W.mg_of X G h5h, d9u, h1s, PySem.W.mg_of X G h5l, b6q, d3t, PySem.W.mg_of X G d5s, d1v, g2p, PySem.W.mg_of X G g3z, b0h, b3h, PySem.W.mg_of X G h5q, d1w, g2q, PySem.W.mg_of X G g4d, c8m, c8n, b6r, c5g, c2n, d3u, c2o, c2p, a9o, b6s, PySem.W.mg_of X G d6j, b4j, c5h, PySem.W.mg_of X G f9p, b2y, c2q, PySem.W.mg_of X G d6n, b5g, c3y, PySem.W.mg_of X G g4h, c0y, d9v, PySem.W.mg_of X G f2z, c5i, f6v, PySem.W.mg_of X G f9t, d1y, g2r, PySem.W.mg_of X G g4l, d1z, g2s, PySem.W.mg_of X G g4p, d2g, g2t, PySem.W.mg_of X G g4t, d9w, h1t, PySem.W.mg_of X G h5z, a5j, b0i, PySem.W.mg_of X G c1v, b6t, d3w, PySem.W.mg_of X G d6r, b5h, c8o, PySem.W.mg_of X G f3j, c3z, f3t, PySem.W.mg_of X G g5f, l8d, m8l, PySem.W.mg_of X G l9p, PySem.W.mg_none_of X G g6r, PySem.W.mg_none_of X G i0s, PySem.W.mg_none_of X G c5j, PySem.W.mg_none_of X G h6o, PySem.W.mg_none_of X G a3k, PySem.W.mg_none_of X G b3i, PySem.W.mg_none_of X G b3j, PySem.W.mg_none_of X G k6v, PySem.W.mg_none_of X G l3r, PySem.W.mg_none_of X G c1r, PySem.W.mg_none_of X G f4j, PySem.W.mg_none_of X G d3y, PySem.W.mg_none_of X G j0q, PySem.W.mg_of X G i3b, PySem.W.mg_of X G h1u, PySem.W.mg_of X G g0q, PySem.W.mg_of X G h1v, PySem.W.mg_of X G h1w, PySem.W.mg_of X G h1x, PySem.W.mg_of X G g0r, PySem.W.mg_of X G f3u, ⟨cl_Part_pg, cl_Part_hd, cl_Part_po, cl_Part_sa⟩, ⟨f0w, me_Part_grain_fn, b5m⟩, ⟨f1g, me_Part_fresh_fn, a7i⟩, ⟨cl_Gain_pg, cl_Gain_hd, cl_Gain_po, cl_Gain_sa⟩, a1t, ⟨mk_Gain_ma, f7j, me_Gain___init___fn, mk_Gain_kp⟩, ⟨f1j, me_Gain_grain_fn, c8q⟩, ⟨d0h, me_Gain_through_fn, b9y⟩, ⟨f7n, me_Gain_word_fn, d4p⟩, ⟨me_Gain_fresh_at, me_Gain_fresh_fn, a7i⟩, ⟨cl_Delay_pg, cl_Delay_hd, cl_Delay_po, cl_Delay_sa⟩, a1q, ⟨mk_Delay_ma, f1n, me_Delay___init___fn, mk_Delay_kp⟩, ⟨c6k, me_Delay_through_fn, b6w⟩, ⟨f1r, me_Delay_word_fn, c8r⟩, ⟨me_Delay_grain_at, me_Delay_grain_fn, b5m⟩, ⟨me_Delay_fresh_at, me_Delay_fresh_fn, a7i⟩, ⟨cl_Echo_pg, cl_Echo_hd, cl_Echo_po, cl_Echo_sa⟩, a1m, a1n, a1l, a0w, a0m, ⟨mk_Echo_ma, f7u, me_Echo___init___fn, mk_Echo_kp⟩, ⟨f1u, me_Echo_grain_fn, c8s⟩, ⟨d0k, me_Echo_through_fn, b9z⟩, ⟨f1z, me_Echo_reach_fn, c8t⟩, ⟨f7z, me_Echo_word_fn, d4q⟩, ⟨me_Echo_fresh_at, me_Echo_fresh_fn, a7i⟩, ⟨cl_Back_pg, cl_Back_hd, cl_Back_po, cl_Back_sa⟩, a1u, a1v, ⟨mk_Back_ma, f8i, me_Back___init___fn, mk_Back_kp⟩, ⟨f2i, me_Back_grain_fn, c8u⟩, ⟨d0n, me_Back_through_fn, c0g⟩, ⟨f8m, me_Back_word_fn, d4r⟩, ⟨me_Back_fresh_at, me_Back_fresh_fn, a7i⟩, ⟨cl_Hall_pg, cl_Hall_hd, cl_Hall_po, cl_Hall_sa⟩, a1y, a1z, ⟨mk_Hall_ma, f8p, me_Hall___init___fn, mk_Hall_kp⟩, ⟨d0q, me_Hall_through_fn, c0h⟩, ⟨f8t, me_Hall_word_fn, d4s⟩, ⟨me_Hall_grain_at, me_Hall_grain_fn, b5m⟩, ⟨me_Hall_fresh_at, me_Hall_fresh_fn, a7i⟩, ⟨cl_Swell_pg, cl_Swell_hd, cl_Swell_po, cl_Swell_sa⟩, a0q, a0s, a1g, ⟨mk_Swell_ma, f2n, me_Swell___init___fn, mk_Swell_kp⟩, ⟨d4y, me_Swell_grain_fn, c2y⟩, ⟨d5h, me_Swell_fresh_fn, c2z⟩, ⟨c6v, me_Swell_line_at_fn, b6y⟩, ⟨c6z, me_Swell_gain_at_fn, b6z⟩, ⟨c7i, me_Swell_through_fn, b7g⟩, ⟨f2r, me_Swell_word_fn, c8v⟩, ⟨cl_Chain_pg, cl_Chain_hd, cl_Chain_po, cl_Chain_sa⟩, a2j, a1w, ⟨mk_Chain_ma, f2u, me_Chain___init___fn, mk_Chain_kp⟩, ⟨c7l, me_Chain_through_fn, b7h⟩, ⟨d5w, me_Chain_grain_fn, c3g⟩, ⟨d6g, me_Chain_words_fn, c3h⟩, PySem.W.mg_of X G d2h, ⟨_, rfl⟩, PySem.W.mg_of X G a4g, ⟨_, rfl⟩, PySem.W.mg_of X G a4h, ⟨_, rfl⟩, PySem.W.mg_of X G b5i, ⟨_, rfl⟩, PySem.W.mg_of X G b5j, ⟨_, rfl⟩, PySem.W.mg_of X G b6u, ⟨_, rfl⟩, PySem.W.mg_of X G d2i, ⟨_, rfl⟩, PySem.W.mg_of X G b1u, ⟨_, rfl⟩, PySem.W.mg_of X G b6v, ⟨_, rfl⟩, PySem.W.mg_of X G a8i, ⟨⟨_, _, ld_READERS, kd_READERS⟩, nd_READERS⟩, a8j, a6o, a8k, a8l, a6p, a8m⟩
 exact ⟨_, fun s v => .of_eq rfl, fun base _ _ => m9o T⟩
end My
namespace PySem.W.Fast
theorem tw5503267741285127851:True:=trivial
theorem tw8690640995862869864:True:=trivial
theorem tw7315243072173256657:True:=trivial
theorem tw14221198151039215410:True:=trivial
theorem tw2770610923648965838:True:=trivial
theorem tw10060993915351024008:True:=trivial
theorem tw2942310488636338150:True:=trivial
theorem tw2230433903557785785:True:=trivial
theorem tw15471536686500165118:True:=trivial
theorem tw10263018296157939726:True:=trivial
theorem tw7810255608801181815:True:=trivial
theorem tw7830303937177713984:True:=trivial
theorem tw14148212797409413187:True:=trivial
theorem tw5498697033025954990:True:=trivial
theorem tw16783601638080945275:True:=trivial
theorem tw15366862353333430582:True:=trivial
theorem tw9074200470731467899:True:=trivial
theorem tw4037839156446765721:True:=trivial
theorem tw14427032495476004210:True:=trivial
theorem tw16749916249523323186:True:=trivial
theorem tw17533059014900856844:True:=trivial
theorem tw6459329914770503635:True:=trivial
theorem tw11990371035520526131:True:=trivial
theorem tw12973587605805982872:True:=trivial
theorem tw5461673460171087104:True:=trivial
theorem tw16674420937757593405:True:=trivial
theorem tw10067672570146126482:True:=trivial
theorem tw6682915504250397267:True:=trivial
theorem tw6425968726141857503:True:=trivial
theorem tw7706272726722928505:True:=trivial
theorem tw9395084377245784184:True:=trivial
theorem tw13100176833034196292:True:=trivial
theorem tw2127443283430239809:True:=trivial
theorem tw7267736061075599909:True:=trivial
theorem tw13227570808166077368:True:=trivial
theorem tw3130957448805557309:True:=trivial
theorem tw11820193615658270308:True:=trivial
theorem tw5182607681465171527:True:=trivial
theorem tw4380126953026545658:True:=trivial
theorem tw9947292860381813080:True:=trivial
theorem tw11543376986928363264:True:=trivial
theorem tw11816859636606316925:True:=trivial
theorem tw13067748401382074760:True:=trivial
theorem tw16759644823900840638:True:=trivial
theorem tw3871619374299072879:True:=trivial
theorem tw12281725305154304681:True:=trivial
theorem tw13501637915447160102:True:=trivial
theorem tw12914870357217407914:True:=trivial
theorem tw7919395327373456485:True:=trivial
theorem tw9742471605055926735:True:=trivial
theorem tw12280036726282726706:True:=trivial
theorem tw12648052341058494022:True:=trivial
theorem tw5934248485767630072:True:=trivial
theorem tw4502447117379214766:True:=trivial
theorem tw10104088582892443138:True:=trivial
theorem tw18024925225871836908:True:=trivial
theorem tw15370238964296517197:True:=trivial
theorem tw5797067659199207896:True:=trivial
theorem tw12005006895771879573:True:=trivial
theorem tw5693234442034280810:True:=trivial
theorem tw10550328676814171114:True:=trivial
theorem tw5615055799162674254:True:=trivial
theorem tw2418053673341155909:True:=trivial
theorem tw11514136895645328920:True:=trivial
theorem tw6341035614543329139:True:=trivial
theorem tw5968938841771048251:True:=trivial
theorem tw13654535207905087746:True:=trivial
theorem tw17028909471467830625:True:=trivial
theorem tw872181324843925289:True:=trivial
theorem tw1650669360025257735:True:=trivial
theorem tw18444762831237024809:True:=trivial
theorem tw10913648435697046114:True:=trivial
theorem tw2140289288998756980:True:=trivial
theorem tw16170910497799404733:True:=trivial
theorem tw10219615742915527431:True:=trivial
theorem tw11163136113315538438:True:=trivial
theorem tw5771282296904104028:True:=trivial
theorem tw15738629605778748607:True:=trivial
theorem tw6623063299278608597:True:=trivial
theorem tw18259984535990813251:True:=trivial
theorem tw14147937106756822822:True:=trivial
theorem tw6211752644471394973:True:=trivial
theorem tw1374339901435100632:True:=trivial
theorem tw13393630747398181595:True:=trivial
theorem tw12226264212217349876:True:=trivial
theorem tw2130254507025496471:True:=trivial
theorem tw17465774750780778046:True:=trivial
theorem tw9299691575097423810:True:=trivial
theorem tw16603634758671460923:True:=trivial
theorem tw3742679698441351695:True:=trivial
theorem tw2160489763884090210:True:=trivial
theorem tw767214840631924485:True:=trivial
theorem tw18232187955426989829:True:=trivial
theorem tw3892450154733140392:True:=trivial
theorem tw9165210509895576251:True:=trivial
theorem tw12021062415081578112:True:=trivial
theorem tw4835527163864039407:True:=trivial
theorem tw13232104070893193387:True:=trivial
theorem tw6634337689090812149:True:=trivial
theorem tw11800986782351470301:True:=trivial
theorem tw12942555622570737090:True:=trivial
theorem tw16733076713050117447:True:=trivial
theorem tw4729975625547553040:True:=trivial
theorem tw5331921863975402901:True:=trivial
theorem tw12568865197129364455:True:=trivial
theorem tw2598989541215120755:True:=trivial
theorem tw16128180774450765206:True:=trivial
theorem tw2809495493423455668:True:=trivial
theorem tw17769585745419725513:True:=trivial
theorem tw4582487983450151142:True:=trivial
theorem tw6244271973518592584:True:=trivial
theorem tw4678414581076177221:True:=trivial
theorem tw17629382490383032431:True:=trivial
theorem tw14344855201359014525:True:=trivial
theorem tw15163763384516844867:True:=trivial
theorem tw15951237602915356960:True:=trivial
theorem tw10442102001686586855:True:=trivial
theorem tw8503745263518139334:True:=trivial
theorem tw14518364358642653383:True:=trivial
theorem tw14206573589927508497:True:=trivial
theorem tw61714389561345767:True:=trivial
theorem tw10923929707780508984:True:=trivial
theorem tw355367830904654260:True:=trivial
theorem tw3946811198152790557:True:=trivial
theorem tw14747549738532949959:True:=trivial
theorem tw10080902089477221949:True:=trivial
theorem tw11471592559819873796:True:=trivial
theorem tw5798046628902004722:True:=trivial
theorem tw7663377957025813571:True:=trivial
theorem tw8719981259089488516:True:=trivial
theorem tw9380665217474854029:True:=trivial
theorem tw2240969792006461466:True:=trivial
theorem tw8404224177806578847:True:=trivial
theorem tw8050763158115874540:True:=trivial
theorem tw9279433632053470982:True:=trivial
theorem tw16010661116132478581:True:=trivial
theorem tw14295195738945424214:True:=trivial
theorem tw12403413118955559360:True:=trivial
theorem tw11503697071005593952:True:=trivial
theorem tw58307568129808384:True:=trivial
theorem tw13699249994821145717:True:=trivial
theorem tw18374720828353764295:True:=trivial
theorem tw1914083115301587273:True:=trivial
theorem tw10096548220342333926:True:=trivial
theorem tw18417970850207349592:True:=trivial
theorem tw7578158819695390502:True:=trivial
theorem tw9167086245007071559:True:=trivial
theorem tw16352949113901684078:True:=trivial
theorem tw17301902914536370157:True:=trivial
theorem tw16921329810011696410:True:=trivial
theorem tw12332824578213370084:True:=trivial
theorem tw7141407502819112668:True:=trivial
theorem tw15557467483236642025:True:=trivial
theorem tw18014738762710519275:True:=trivial
theorem tw10065802140556961902:True:=trivial
theorem tw16503377991791030747:True:=trivial
theorem tw17035738974327589238:True:=trivial
theorem tw2569199028154171910:True:=trivial
theorem tw16421218566901751310:True:=trivial
theorem tw3486738533803074001:True:=trivial
theorem tw10670477802357338433:True:=trivial
theorem tw17608637136198417526:True:=trivial
theorem tw6862980286395157616:True:=trivial
theorem tw10442659697188994386:True:=trivial
theorem tw15708249146332766046:True:=trivial
theorem tw1496309999300408325:True:=trivial
theorem tw16841045534971998919:True:=trivial
theorem tw13325961787471824977:True:=trivial
theorem tw105393461662218386:True:=trivial
theorem tw13925433978555498423:True:=trivial
theorem tw9078848153058147982:True:=trivial
theorem tw17493746945445363382:True:=trivial
theorem tw12246892951493379890:True:=trivial
theorem tw1316434009299001817:True:=trivial
theorem tw13000295671761793426:True:=trivial
theorem tw3973802375072480225:True:=trivial
theorem tw2841055775031102241:True:=trivial
theorem tw11963985127722867462:True:=trivial
theorem tw16163109660588898941:True:=trivial
theorem tw836874852766549735:True:=trivial
theorem tw4389448057826865679:True:=trivial
theorem tw15487994243663766176:True:=trivial
theorem tw15987496476700329827:True:=trivial
theorem tw13547347308439345464:True:=trivial
theorem tw10372607104797140546:True:=trivial
theorem tw647910532324562573:True:=trivial
theorem tw3885568840345297564:True:=trivial
theorem tw9174827441595754399:True:=trivial
theorem tw15261844331187104921:True:=trivial
theorem tw11401343232144993499:True:=trivial
theorem tw4615949115627312451:True:=trivial
theorem tw15442521475103689514:True:=trivial
theorem tw496892443768567382:True:=trivial
theorem tw10842644137584197321:True:=trivial
theorem tw3520473429447229619:True:=trivial
theorem tw6578586616314610521:True:=trivial
theorem tw12875055327370917746:True:=trivial
theorem tw17213248026892411036:True:=trivial
theorem tw17860544617040609706:True:=trivial
theorem tw8382757818654297819:True:=trivial
theorem tw1525074400211019277:True:=trivial
theorem tw15923274555359637470:True:=trivial
theorem tw8207053956732804960:True:=trivial
theorem tw8969723857108765130:True:=trivial
theorem tw3314669437814572318:True:=trivial
theorem tw17414210266948031967:True:=trivial
theorem tw3987905129898971749:True:=trivial
theorem tw4306762269786276698:True:=trivial
theorem tw965330375140715633:True:=trivial
theorem tw12891295919445323966:True:=trivial
theorem tw6395120423710463345:True:=trivial
theorem tw12555960697065299609:True:=trivial
theorem tw4034027833182685423:True:=trivial
theorem tw5229413474975913040:True:=trivial
theorem tw13798137870535381134:True:=trivial
theorem tw9484342815937402883:True:=trivial
theorem tw18240484269705654840:True:=trivial
theorem tw5735474155839441092:True:=trivial
theorem tw15362974839473471446:True:=trivial
theorem tw1199338388488599386:True:=trivial
end PySem.W.Fast
open PySem PySem.W PyProof.Rows
set_option maxRecDepth 100000 in
set_option maxHeartbeats 0 in
theorem PySem.Challenge.cw_mixbench_k41_chain_by_its_parts_holds : PySem.Challenge.rw_mixbench_k41_chain_by_its_parts.Holds := by
 w_on; o_law; k_head; (case hw => w_witness2)
 k_fill
 refine L2.l7i (l := PySem.Challenge.rw_mixbench_k41_chain_by_its_parts) (k := 14) (x := "_law_script") (CX := fun _ => L2.CX0) rfl rfl ⟨rfl, by decide, by decide⟩ (fun w h Y => PySem.W.kIn_of Y) ?F (fun _ _ _ _ _ z => z)
 case F =>
  intro w mg fa h KX G hmg
  refine' My.all_mk KX G hmg ?i3b ?h1u ?g0q ?h1v ?h1w ?h1x ?g0r ?f3u ?g3b ?g3c ?g3d ?g3e ?f0o ?f0p ?f0q ?f0r ?g3f ?g3g ?g3h ?g3i ?h2y ?h2z ?h3a ?h3b ?g3j ?g3k ?g3l ?g3m ?g3n ?g3o ?g3p ?g3q ?l5y ?l5z ?l6a ?l6b ?k0y ?k0z ?k1a ?k1b ?h3e ?h3f ?h3g ?h3h ?g3r ?g3s ?g3t ?g3u ?c5v ?c5w ?c5y ?c5z ?c6g ?c6h ?c6i ?c6j ?f0s ?f0t ?f0u ?f0v ?f6z ?f7g ?f7h ?f7i ?h3j ?h3k ?h3l ?h3m ?h3n ?h3o ?h3p ?h3q ?f0w ?f0y ?f0z ?b5m ?f1g ?f1h ?f1i ?a7i ?f7j ?f7k ?f7l ?f7m ?f1j ?f1k ?f1l ?c8q ?d0h ?d0i ?d0j ?b9y ?f7n ?f7o ?f7p ?d4p ?f1n ?f1o ?f1p ?f1q ?c6k ?c6l ?c6m ?b6w ?f1r ?f1s ?f1t ?c8r ?f7q ?f7r ?f7s ?f7t ?c6n ?c6o ?c6p ?c6q ?f7u ?f7v ?f7w ?f7y ?f1u ?f1v ?f1w ?c8s ?d0k ?d0l ?d0m ?b9z ?f1z ?f2g ?f2h ?c8t ?f7z ?f8g ?f8h ?d4q ?f8i ?f8j ?f8k ?f8l ?f2i ?f2j ?f2k ?c8u ?d0n ?d0o ?d0p ?c0g ?f8m ?f8n ?f8o ?d4r ?f8p ?f8q ?f8r ?f8s ?d0q ?d0r ?d0s ?c0h ?f8t ?f8u ?f8v ?d4s ?c6r ?c6s ?c6t ?c6u ?f8w ?f8y ?f8z ?f9g ?l6d ?l6e ?l6f ?l6g ?d4t ?d4u ?d4v ?d4w ?f2n ?f2o ?f2p ?f2q ?d4y ?d4z ?d5g ?c2y ?d5h ?d5i ?d5j ?c2z ?c6v ?c6w ?c6y ?b6y ?c6z ?c7g ?c7h ?b6z ?c7i ?c7j ?c7k ?b7g ?f2r ?f2s ?f2t ?c8v ?f9h ?f9i ?f9j ?f9k ?d5k ?d5l ?d5m ?d5n ?f9l ?f9m ?f9n ?f9o ?d5o ?d5p ?d5q ?d5r ?h4y ?h4z ?h5a ?h5b ?g3v ?g3w ?g3x ?g3y ?h5d ?h5e ?h5f ?h5g ?h5h ?h5i ?h5j ?h5k ?h5l ?h5m ?h5n ?h5o ?d5s ?d5t ?d5u ?d5v ?g3z ?g4a ?g4b ?g4c ?h5q ?h5r ?h5s ?h5t ?g4d ?g4e ?g4f ?g4g ?f2u ?f2v ?f2w ?f2y ?c7l ?c7m ?c7n ?b7h ?d5w ?d5y ?d5z ?c3g ?d6g ?d6h ?d6i ?c3h ?d6j ?d6k ?d6l ?d6m ?f9p ?f9q ?f9r ?f9s ?d6n ?d6o ?d6p ?d6q ?g4h ?g4i ?g4j ?g4k ?f2z ?f3g ?f3h ?f3i ?f9t ?f9u ?f9v ?f9w ?g4l ?g4m ?g4n ?g4o ?g4p ?g4q ?g4r ?g4s ?g4t ?g4u ?g4v ?g4w ?h5z ?h6a ?h6b ?h6c ?c1v ?c1w ?c1y ?c1z ?d6r ?d6s ?d6t ?d6u ?f3j ?f3k ?f3l ?f3m ?g5f ?g5g ?g5h ?g5i ?l9p ?m4v ?m4w ?m4x ?g6r ?i0s ?c5j ?h6o ?a3k ?b3i ?b3j ?k6v ?l3r ?c1r ?f4j ?d3y ?j0q ?cl_Part_pg ?cl_Part_hd ?cl_Part_po ?cl_Part_sa ?me_Part_grain_fn ?me_Part_fresh_fn ?cl_Gain_pg ?cl_Gain_hd ?cl_Gain_po ?cl_Gain_sa ?a1t ?me_Gain___init___fn ?mk_Gain_ma ?mk_Gain_kp ?me_Gain_grain_fn ?me_Gain_through_fn ?me_Gain_word_fn ?me_Gain_fresh_at ?me_Gain_fresh_fn ?cl_Delay_pg ?cl_Delay_hd ?cl_Delay_po ?cl_Delay_sa ?a1q ?me_Delay___init___fn ?mk_Delay_ma ?mk_Delay_kp ?me_Delay_through_fn ?me_Delay_word_fn ?me_Delay_grain_at ?me_Delay_grain_fn ?me_Delay_fresh_at ?me_Delay_fresh_fn ?cl_Echo_pg ?cl_Echo_hd ?cl_Echo_po ?cl_Echo_sa ?a1m ?a1n ?a1l ?a0w ?a0m ?me_Echo___init___fn ?mk_Echo_ma ?mk_Echo_kp ?me_Echo_grain_fn ?me_Echo_through_fn ?me_Echo_reach_fn ?me_Echo_word_fn ?me_Echo_fresh_at ?me_Echo_fresh_fn ?cl_Back_pg ?cl_Back_hd ?cl_Back_po ?cl_Back_sa ?a1u ?a1v ?me_Back___init___fn ?mk_Back_ma ?mk_Back_kp ?me_Back_grain_fn ?me_Back_through_fn ?me_Back_word_fn ?me_Back_fresh_at ?me_Back_fresh_fn ?cl_Hall_pg ?cl_Hall_hd ?cl_Hall_po ?cl_Hall_sa ?a1y ?a1z ?me_Hall___init___fn ?mk_Hall_ma ?mk_Hall_kp ?me_Hall_through_fn ?me_Hall_word_fn ?me_Hall_grain_at ?me_Hall_grain_fn ?me_Hall_fresh_at ?me_Hall_fresh_fn ?cl_Swell_pg ?cl_Swell_hd ?cl_Swell_po ?cl_Swell_sa ?a0q ?a0s ?a1g ?me_Swell___init___fn ?mk_Swell_ma ?mk_Swell_kp ?me_Swell_grain_fn ?me_Swell_fresh_fn ?me_Swell_line_at_fn ?me_Swell_gain_at_fn ?me_Swell_through_fn ?me_Swell_word_fn ?cl_Chain_pg ?cl_Chain_hd ?cl_Chain_po ?cl_Chain_sa ?a2j ?a1w ?me_Chain___init___fn ?mk_Chain_ma ?mk_Chain_kp ?me_Chain_through_fn ?me_Chain_grain_fn ?me_Chain_words_fn ?d2h ?a4g ?a4h ?b5i ?b5j ?b6u ?d2i ?b1u ?b6v ?a8i ?ld_READERS ?kd_READERS ?nd_READERS ?a8j ?a6o ?a8k ?a8l ?a6p ?a8m
  case i3b | h1u | g0q | h1v | h1w | h1x | g0r | f3u | g3b | g3c | g3d | g3e | f0o | f0p | f0q | f0r | g3f | g3g | g3h | g3i | h2y | h2z | h3a | h3b | g3j | g3k | g3l | g3m | g3n | g3o | g3p | g3q | l5y | l5z | l6a | l6b | k0y | k0z | k1a | k1b | h3e | h3f | h3g | h3h | g3r | g3s | g3t | g3u | c5v | c5w | c5y | c5z | c6g | c6h | c6i | c6j | f0s | f0t | f0u | f0v => k_is
  case f6z | f7g | f7h | f7i | h3j | h3k | h3l | h3m | h3n | h3o | h3p | h3q | f0w | f0y | f0z | b5m | f1g | f1h | f1i | a7i | f7j | f7k | f7l | f7m | f1j | f1k | f1l | c8q | d0h | d0i | d0j | b9y | f7n | f7o | f7p | d4p | f1n | f1o | f1p | f1q | c6k | c6l | c6m | b6w | f1r | f1s | f1t | c8r | f7q | f7r | f7s | f7t | c6n | c6o | c6p | c6q | f7u | f7v | f7w | f7y => k_is
  case f1u | f1v | f1w | c8s | d0k | d0l | d0m | b9z | f1z | f2g | f2h | c8t | f7z | f8g | f8h | d4q | f8i | f8j | f8k | f8l | f2i | f2j | f2k | c8u | d0n | d0o | d0p | c0g | f8m | f8n | f8o | d4r | f8p | f8q | f8r | f8s | d0q | d0r | d0s | c0h | f8t | f8u | f8v | d4s | c6r | c6s | c6t | c6u | f8w | f8y | f8z | f9g | l6d | l6e | l6f | l6g | d4t | d4u | d4v | d4w => k_is
  case f2n | f2o | f2p | f2q | d4y | d4z | d5g | c2y | d5h | d5i | d5j | c2z | c6v | c6w | c6y | b6y | c6z | c7g | c7h | b6z | c7i | c7j | c7k | b7g | f2r | f2s | f2t | c8v | f9h | f9i | f9j | f9k | d5k | d5l | d5m | d5n | f9l | f9m | f9n | f9o | d5o | d5p | d5q | d5r | h4y | h4z | h5a | h5b | g3v | g3w | g3x | g3y | h5d | h5e | h5f | h5g | h5h | h5i | h5j | h5k => k_is
  case h5l | h5m | h5n | h5o | d5s | d5t | d5u | d5v | g3z | g4a | g4b | g4c | h5q | h5r | h5s | h5t | g4d | g4e | g4f | g4g | f2u | f2v | f2w | f2y | c7l | c7m | c7n | b7h | d5w | d5y | d5z | c3g | d6g | d6h | d6i | c3h | d6j | d6k | d6l | d6m | f9p | f9q | f9r | f9s | d6n | d6o | d6p | d6q | g4h | g4i | g4j | g4k | f2z | f3g | f3h | f3i | f9t | f9u | f9v | f9w => k_is
  case g4l | g4m | g4n | g4o | g4p | g4q | g4r | g4s | g4t | g4u | g4v | g4w | h5z | h6a | h6b | h6c | c1v | c1w | c1y | c1z | d6r | d6s | d6t | d6u | f3j | f3k | f3l | f3m | g5f | g5g | g5h | g5i | l9p | m4v | m4w | m4x | g6r | i0s | c5j | h6o | a3k | b3i | b3j | k6v | l3r | c1r | f4j | d3y | j0q | cl_Part_pg | cl_Part_hd | cl_Part_po | cl_Part_sa | me_Part_grain_fn | me_Part_fresh_fn | cl_Gain_pg | cl_Gain_hd | cl_Gain_po | cl_Gain_sa | a1t => k_is
  case me_Gain___init___fn | mk_Gain_ma | mk_Gain_kp | me_Gain_grain_fn | me_Gain_through_fn | me_Gain_word_fn | me_Gain_fresh_at | me_Gain_fresh_fn | cl_Delay_pg | cl_Delay_hd | cl_Delay_po | cl_Delay_sa | a1q | me_Delay___init___fn | mk_Delay_ma | mk_Delay_kp | me_Delay_through_fn | me_Delay_word_fn | me_Delay_grain_at | me_Delay_grain_fn | me_Delay_fresh_at | me_Delay_fresh_fn | cl_Echo_pg | cl_Echo_hd | cl_Echo_po | cl_Echo_sa | a1m | a1n | a1l | a0w | a0m | me_Echo___init___fn | mk_Echo_ma | mk_Echo_kp | me_Echo_grain_fn | me_Echo_through_fn | me_Echo_reach_fn | me_Echo_word_fn | me_Echo_fresh_at | me_Echo_fresh_fn | cl_Back_pg | cl_Back_hd | cl_Back_po | cl_Back_sa | a1u | a1v | me_Back___init___fn | mk_Back_ma | mk_Back_kp | me_Back_grain_fn | me_Back_through_fn | me_Back_word_fn | me_Back_fresh_at | me_Back_fresh_fn | cl_Hall_pg | cl_Hall_hd | cl_Hall_po | cl_Hall_sa | a1y | a1z => k_is
  case me_Hall___init___fn | mk_Hall_ma | mk_Hall_kp | me_Hall_through_fn | me_Hall_word_fn | me_Hall_grain_at | me_Hall_grain_fn | me_Hall_fresh_at | me_Hall_fresh_fn | cl_Swell_pg | cl_Swell_hd | cl_Swell_po | cl_Swell_sa | a0q | a0s | a1g | me_Swell___init___fn | mk_Swell_ma | mk_Swell_kp | me_Swell_grain_fn | me_Swell_fresh_fn | me_Swell_line_at_fn | me_Swell_gain_at_fn | me_Swell_through_fn | me_Swell_word_fn | cl_Chain_pg | cl_Chain_hd | cl_Chain_po | cl_Chain_sa | a2j | a1w | me_Chain___init___fn | mk_Chain_ma | mk_Chain_kp | me_Chain_through_fn | me_Chain_grain_fn | me_Chain_words_fn | d2h | a4g | a4h | b5i | b5j | b6u | d2i | b1u | b6v | a8i | ld_READERS => k_is
  (case kd_READERS => k_keys)
  (case nd_READERS => decide)
  case a8j | a6o | a8k | a8l | a6p | a8m => k_is
