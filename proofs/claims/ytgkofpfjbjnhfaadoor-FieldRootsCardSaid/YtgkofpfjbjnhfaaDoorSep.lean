/- Separation: parts of the heap as predicates, and how allocations, stores and draws act on them. No Go function is spoken of here. -/
import Derived.WalkKit
import Derived.Below
import Derived.Laws.Rows
namespace Go.Proofs.YtgkofpfjbjnhfaaDoor
open Go.RowKit
set_option linter.unusedVariables false

theorem hide {p : Prop} (h : p) : Hid p := h

/-- a part of the heap -/
abbrev Hp := Nat → Option Obj
def Hp.sub (h h' : Hp) : Prop := ∀ k o, h k = some o → h' k = some o
def Hp.apart (h h' : Hp) : Prop := ∀ k, h k = Option.none ∨ h' k = Option.none
def Hp.or (h h' : Hp) : Hp := fun k => (h k).or (h' k)
def hpOf (w : World) : Hp := fun k => w.heap[k]?

theorem Hp.sub_refl (h : Hp) : h.sub h := fun _ _ e => e
theorem Hp.sub.trans {a b c : Hp} (h : a.sub b) (k : b.sub c) : a.sub c := fun i o e => k i o (h i o e)
theorem Hp.apart.symm {a b : Hp} (h : a.apart b) : b.apart a := fun k => (h k).symm
theorem Hp.apart.sub_right {a b c : Hp} (h : a.apart b) (k : c.sub b) : a.apart c := by
  intro i
  rcases h i with h | h
  · exact .inl h
  · right
    cases hc : c i with
    | none => rfl
    | some o => rw [k i o hc] at h; cases h
theorem Hp.sub_or_left (a b : Hp) : a.sub (a.or b) := fun k o e => by simp [Hp.or, e]
theorem Hp.sub_or_right {a b : Hp} (h : a.apart b) : b.sub (a.or b) := fun k o e => by
  rcases h k with h | h
  · simp [Hp.or, h, e]
  · rw [h] at e; cases e
theorem Hp.or_sub {a b c : Hp} (h : a.sub c) (k : b.sub c) : (a.or b).sub c := fun i o e => by
  simp only [Hp.or, Option.or_eq_some_iff] at e
  rcases e with e | ⟨_, e⟩
  · exact h i o e
  · exact k i o e
theorem Hp.apart_or {a b c : Hp} (h : a.apart b) (k : a.apart c) : a.apart (b.or c) := fun i => by
  rcases h i with h | h
  · exact .inl h
  · rcases k i with k | k
    · exact .inl k
    · right; simp [Hp.or, h, k]

/-- a predicate on a part of the heap -/
structure SP where
  on' : Hp → Prop

def SP.star (P Q : SP) : SP := ⟨fun h => ∃ a b : Hp, a.apart b ∧ a.sub h ∧ b.sub h ∧ P.on' a ∧ Q.on' b⟩
instance : Mul SP := ⟨SP.star⟩

theorem SP.ext {P Q : SP} (h : ∀ x, P.on' x ↔ Q.on' x) : P = Q := by
  cases P; cases Q; congr; funext x; exact propext (h x)

theorem SP.mul_on {P Q : SP} {h : Hp} : (P * Q).on' h ↔ ∃ a b : Hp, a.apart b ∧ a.sub h ∧ b.sub h ∧ P.on' a ∧ Q.on' b := Iff.rfl

theorem SP.mul_comm (P Q : SP) : P * Q = Q * P :=
  SP.ext fun _ => ⟨fun ⟨a, b, h, h1, h2, p, q⟩ => ⟨b, a, h.symm, h2, h1, q, p⟩, fun ⟨a, b, h, h1, h2, p, q⟩ => ⟨b, a, h.symm, h2, h1, q, p⟩⟩

theorem SP.mul_assoc_le {P Q R : SP} {h : Hp} (H : ((P * Q) * R).on' h) : (P * (Q * R)).on' h := by
  obtain ⟨ab, c, h1, h2, h3, ⟨a, b, g1, g2, g3, p, q⟩, r⟩ := H
  refine ⟨a, b.or c, Hp.apart_or g1 (h1.symm.sub_right g2).symm, g2.trans h2, Hp.or_sub (g3.trans h2) h3, p, b, c, ?_, Hp.sub_or_left _ _, Hp.sub_or_right ?_, q, r⟩
  · exact (h1.symm.sub_right g3).symm
  · exact (h1.symm.sub_right g3).symm

theorem SP.mul_assoc (P Q R : SP) : (P * Q) * R = P * (Q * R) :=
  SP.ext fun h => ⟨SP.mul_assoc_le, fun H => by
    rw [SP.mul_comm P, SP.mul_comm Q] at H
    have := SP.mul_assoc_le H
    rw [SP.mul_comm R, SP.mul_comm Q] at this
    exact this⟩

theorem SP.mul_left_comm (P Q R : SP) : P * (Q * R) = Q * (P * R) := by
  rw [← SP.mul_assoc, SP.mul_comm P Q, SP.mul_assoc]

instance : Std.Associative (α := SP) (· * ·) := ⟨SP.mul_assoc⟩
instance : Std.Commutative (α := SP) (· * ·) := ⟨SP.mul_comm⟩

/-- the world has such a part -/
def SP.on (P : SP) (w : World) : Prop := ∃ h : Hp, h.sub (hpOf w) ∧ P.on' h

theorem SP.on_of_heap {P : SP} {w w' : World} (h : P.on w) (e : w'.heap = w.heap) : P.on w' := by
  obtain ⟨x, hx, p⟩ := h
  exact ⟨x, by intro k o ho; simp only [hpOf, e]; exact hx k o ho, p⟩
theorem SP.on.drew {P : SP} {w : World} (h : P.on w) : P.on w.drew := SP.on_of_heap h rfl

theorem SP.on_mul {P Q : SP} {w : World} : (P * Q).on w ↔ ∃ a b : Hp, a.apart b ∧ a.sub (hpOf w) ∧ b.sub (hpOf w) ∧ P.on' a ∧ Q.on' b := by
  constructor
  · rintro ⟨h, hs, a, b, h1, h2, h3, p, q⟩
    exact ⟨a, b, h1, h2.trans hs, h3.trans hs, p, q⟩
  · rintro ⟨a, b, h1, h2, h3, p, q⟩
    exact ⟨hpOf w, Hp.sub_refl _, a, b, h1, h2, h3, p, q⟩

theorem SP.on.left {P Q : SP} {w : World} (h : (P * Q).on w) : P.on w := by
  obtain ⟨a, b, _, h2, _, p, _⟩ := SP.on_mul.1 h
  exact ⟨a, h2, p⟩
theorem SP.on.right {P Q : SP} {w : World} (h : (P * Q).on w) : Q.on w := by
  obtain ⟨a, b, _, _, h3, _, q⟩ := SP.on_mul.1 h
  exact ⟨b, h3, q⟩

/-- P gives Q, on any part -/
def SP.le (P Q : SP) : Prop := ∀ h, P.on' h → ∃ g : Hp, g.sub h ∧ Q.on' g
theorem SP.le.refl (P : SP) : P.le P := fun h p => ⟨h, Hp.sub_refl _, p⟩
theorem SP.le.trans {P Q R : SP} (h : P.le Q) (k : Q.le R) : P.le R := fun x p => by
  obtain ⟨y, hy, q⟩ := h x p
  obtain ⟨z, hz, r⟩ := k y q
  exact ⟨z, hz.trans hy, r⟩
theorem SP.le.on {P Q : SP} {w : World} (h : P.le Q) (p : P.on w) : Q.on w := by
  obtain ⟨x, hx, p⟩ := p
  obtain ⟨y, hy, q⟩ := h x p
  exact ⟨y, hy.trans hx, q⟩
theorem SP.le_left (P Q : SP) : (P * Q).le P := fun _ ⟨a, _, _, h2, _, p, _⟩ => ⟨a, h2, p⟩
theorem SP.le_right (P Q : SP) : (P * Q).le Q := fun _ ⟨_, b, _, _, h3, _, q⟩ => ⟨b, h3, q⟩
theorem SP.le.mul {P P' Q Q' : SP} (h : P.le P') (k : Q.le Q') : (P * Q).le (P' * Q') := by
  rintro x ⟨a, b, h1, h2, h3, p, q⟩
  obtain ⟨a', ha, p'⟩ := h a p
  obtain ⟨b', hb, q'⟩ := k b q
  exact ⟨x, Hp.sub_refl _, a', b', (h1.symm.sub_right ha).symm.sub_right hb, ha.trans h2, hb.trans h3, p', q'⟩
theorem SP.le_of_eq {P Q : SP} (h : P = Q) : P.le Q := h ▸ SP.le.refl P

/-- one block -/
def blk (b : Nat) (o : Obj) : SP := ⟨fun h => h b = some o⟩
/-- a proposition -/
def pure (p : Prop) : SP := ⟨fun _ => p⟩
def ex {α : Type} (f : α → SP) : SP := ⟨fun h => ∃ a, (f a).on' h⟩
/-- nothing -/
def emp : SP := ⟨fun _ => True⟩

theorem on_emp (w : World) : emp.on w := ⟨fun _ => Option.none, fun _ _ h => (nomatch h), trivial⟩
theorem on_mul_emp {P : SP} {w : World} : (P * emp).on w ↔ P.on w :=
  ⟨SP.on.left, fun ⟨h, hs, p⟩ => SP.on_mul.2 ⟨h, fun _ => Option.none, fun _ => .inr rfl, hs, fun _ _ h => (nomatch h), p, trivial⟩⟩
theorem on_emp_mul {P : SP} {w : World} : (emp * P).on w ↔ P.on w := by rw [SP.mul_comm]; exact on_mul_emp

theorem on_pure_mul {p : Prop} {P : SP} {w : World} : (pure p * P).on w ↔ p ∧ P.on w := by
  constructor
  · intro h
    obtain ⟨_, _, hp⟩ := h.left
    exact ⟨hp, h.right⟩
  · rintro ⟨hp, h, hs, q⟩
    exact SP.on_mul.2 ⟨fun _ => Option.none, h, fun _ => .inl rfl, fun _ _ h => (nomatch h), hs, hp, q⟩
theorem on_pure {p : Prop} {w : World} : (pure p).on w ↔ p := ⟨fun ⟨_, _, h⟩ => h, fun h => ⟨fun _ => Option.none, fun _ _ h => (nomatch h), h⟩⟩
theorem on_ex {α : Type} {f : α → SP} {w : World} : (ex f).on w ↔ ∃ a, (f a).on w :=
  ⟨fun ⟨h, hs, a, p⟩ => ⟨a, h, hs, p⟩, fun ⟨a, h, hs, p⟩ => ⟨h, hs, a, p⟩⟩
theorem on_ex_mul {α : Type} {f : α → SP} {P : SP} {w : World} : (ex f * P).on w ↔ ∃ a, (f a * P).on w := by
  constructor
  · intro h
    obtain ⟨a, b, h1, h2, h3, ⟨x, p⟩, q⟩ := SP.on_mul.1 h
    exact ⟨x, SP.on_mul.2 ⟨a, b, h1, h2, h3, p, q⟩⟩
  · rintro ⟨x, h⟩
    obtain ⟨a, b, h1, h2, h3, p, q⟩ := SP.on_mul.1 h
    exact SP.on_mul.2 ⟨a, b, h1, h2, h3, ⟨x, p⟩, q⟩

theorem on_blk {b : Nat} {o : Obj} {w : World} (h : (blk b o).on w) : w.heap[b]? = some o := by
  obtain ⟨x, hs, p⟩ := h
  exact hs b o p
theorem on_blk_mul {b : Nat} {o : Obj} {P : SP} {w : World} (h : (blk b o * P).on w) : w.heap[b]? = some o := on_blk h.left
theorem blk_on {b : Nat} {o : Obj} {w : World} (h : w.heap[b]? = some o) : (blk b o).on w := ⟨hpOf w, Hp.sub_refl _, h⟩

/-- a new block -/
theorem SP.on.alloc {P : SP} {w : World} (h : P.on w) (o : Obj) : (blk w.heap.size o * P).on (w.alloc o) := by
  obtain ⟨x, hs, p⟩ := h
  have hsz : x w.heap.size = Option.none := by
    cases e : x w.heap.size with
    | none => rfl
    | some y => have := hs _ _ e; simp [hpOf] at this
  refine SP.on_mul.2 ⟨fun k => if k = w.heap.size then some o else Option.none, x, ?_, ?_, ?_, by simp [blk], p⟩
  · intro k
    by_cases hk : k = w.heap.size
    · right; rw [hk]; exact hsz
    · left; simp [hk]
  · intro k y hy
    by_cases hk : k = w.heap.size
    · subst hk; simp at hy; subst hy; exact heap_alloc_new w _
    · simp [hk] at hy
  · intro k y hy
    have := hs k y hy
    have hlt : k < w.heap.size := (Array.getElem?_eq_some_iff.1 this).1
    exact (Below.heap_alloc w o k hlt).trans this
theorem SP.on.alloc' {P : SP} {w : World} (h : P.on w) (o : Obj) : P.on (w.alloc o) := (h.alloc o).right

/-- one block is changed, all others stay -/
theorem SP.on.turn {P : SP} {b : Nat} {o o' : Obj} {w w' : World} (h : (blk b o * P).on w) (hb : w'.heap[b]? = some o')
    (hk : ∀ k, k < w.heap.size → k ≠ b → w'.heap[k]? = w.heap[k]?) : (blk b o' * P).on w' := by
  obtain ⟨x, y, h1, h2, h3, p, q⟩ := SP.on_mul.1 h
  have hy : y b = Option.none := by
    rcases h1 b with e | e
    · have p' : x b = some o := p
      rw [p'] at e; cases e
    · exact e
  refine SP.on_mul.2 ⟨fun k => if k = b then some o' else Option.none, y, ?_, ?_, ?_, by simp [blk], q⟩
  · intro k
    by_cases hk : k = b
    · right; rw [hk]; exact hy
    · left; simp [hk]
  · intro k z hz
    by_cases hk : k = b
    · subst hk; simp at hz; subst hz; exact hb
    · simp [hk] at hz
  · intro k z hz
    have hkb : k ≠ b := by intro e; subst e; rw [hy] at hz; cases hz
    have := h3 k z hz
    exact (hk k (Array.getElem?_eq_some_iff.1 this).1 hkb).trans this

/-- a store into a block -/
theorem SP.on.setCell {P : SP} {b i : Nat} {c : Array Value} {t : TypeId} {w : World} (h : (blk b (.cells c t (0, 0)) * P).on w) (v : Value) :
    (blk b (.cells (c.setIfInBounds i v) t (0, 0)) * P).on (w.setCell ⟨b, i, Option.none⟩ v) :=
  h.turn (heap_setCell_same w b i c t v (on_blk_mul h)) (fun k _ hk => heap_setCell_other w _ k v hk)

theorem setRow_heap_same (w : World) (g : Nat) (cs cur : Array Value) (t : TypeId) (fr : Nat × Nat) (hg : w.heap[g]? = some (.cells cur t fr)) :
    (w.setRow g cs).heap[g]? = some (.cells cs t fr) := setRow_heap w g cur cs t fr hg
theorem SP.on.setRow {P : SP} {b : Nat} {c : Array Value} {t : TypeId} {w : World} (h : (blk b (.cells c t (0, 0)) * P).on w) (cs : Array Value) :
    (blk b (.cells cs t (0, 0)) * P).on (w.setRow b cs) :=
  h.turn (setRow_heap_same w b cs c t (0, 0) (on_blk_mul h)) (fun k _ hk => setRow_other w b k cs hk)

/-- what lies below the heap's end stays -/
theorem SP.on.below {P : SP} {w w' : World} (h : P.on w) (hb : Below w.heap.size w w') : P.on w' := by
  obtain ⟨x, hs, p⟩ := h
  refine ⟨x, fun k o e => ?_, p⟩
  have := hs k o e
  exact (hb.block k (Array.getElem?_eq_some_iff.1 this).1).trans this

/-- the streams are as they were, and nothing has gone -/
structure Str (w w' : World) : Prop where
  os : w'.os = w.os
  tape : w'.tape = w.tape
  output : w'.output = w.output
  size : w.heap.size ≤ w'.heap.size
theorem Str.refl (w : World) : Str w w := ⟨rfl, rfl, rfl, Nat.le_refl _⟩
theorem Str.trans {a b c : World} (h : Str a b) (k : Str b c) : Str a c := ⟨k.os.trans h.os, k.tape.trans h.tape, k.output.trans h.output, Nat.le_trans h.size k.size⟩
theorem Str.drew {a b : World} (h : Str a b) : Str a b.drew := ⟨h.os, h.tape, h.output, h.size⟩
theorem Str.alloc {a b : World} (h : Str a b) (o : Obj) : Str a (b.alloc o) := ⟨h.os, h.tape, h.output, by have := h.size; simp; omega⟩
theorem Str.setCell {a b : World} (h : Str a b) (p : Addr) (v : Value) : Str a (b.setCell p v) := ⟨h.os, h.tape, h.output, by have := h.size; simp; omega⟩
theorem Str.setRow {a b : World} (h : Str a b) (g : Nat) (cs : Array Value) : Str a (b.setRow g cs) := ⟨h.os, h.tape, h.output, by have := h.size; simp; omega⟩
theorem Str.below {a b : World} {B : Nat} (h : Below B a b) : Str a b := ⟨h.os, h.tape, h.output, h.size⟩

theorem below_setRow {B : Nat} {a w : World} (h : Below B a w) {g : Nat} (hg : B ≤ g) (cs : Array Value) : Below B a (w.setRow g cs) :=
  h.trans ⟨rfl, rfl, rfl, by simp, fun k hk => setRow_other w g k cs (by omega)⟩

/-- all that lies in a world -/
def all (w : World) : SP := ⟨fun h => ∀ k, k < w.heap.size → h k = w.heap[k]?⟩
theorem on_all (w : World) : (all w).on w := ⟨hpOf w, Hp.sub_refl _, fun _ _ => rfl⟩
theorem all_below {w w' : World} (h : (all w).on w') (s : Str w w') : Below w.heap.size w w' :=
  ⟨s.os, s.tape, s.output, s.size, fun k hk => by
    obtain ⟨x, hs, p⟩ := h
    have e : w.heap[k]? = some w.heap[k] := by simp [hk]
    rw [e]
    exact hs k _ ((p k hk).trans e)⟩

/-- how a call ends: with a value, a part of the heap of its own, and the rest as it was -/
def Ends (w : World) (F : SP) (Q : Value → SP) : Ending → World → Prop := fun e w' => ∃ v, e = .returned v ∧ (Q v * F).on w' ∧ Str w w'

theorem all_le {F : SP} {w : World} (h : F.on w) : (all w).le F := by
  obtain ⟨x, hs, p⟩ := h
  intro y hy
  refine ⟨x, fun k o ho => ?_, p⟩
  have hk := hs k o ho
  rw [hy k (Array.getElem?_eq_some_iff.1 hk).1]
  exact hk
theorem on_all_to {Q F : SP} {w w' : World} (h : (Q * all w).on w') (hF : F.on w) : (Q * F).on w' := (SP.le.mul (SP.le.refl Q) (all_le hF)).on h

/-- how a call ends that makes memory and turns none: with a value that has a part of its own -/
def Makes (w : World) (Q : Value → SP) (e : Ending) (w' : World) : Prop := ∃ v, e = .returned v ∧ (Q v * all w).on w' ∧ Str w w'
theorem Makes.below {w w' : World} {Q : Value → SP} {v : Value} (h : (Q v * all w).on w') (s : Str w w') : Below w.heap.size w w' := all_below h.right s
end Go.Proofs.YtgkofpfjbjnhfaaDoor
