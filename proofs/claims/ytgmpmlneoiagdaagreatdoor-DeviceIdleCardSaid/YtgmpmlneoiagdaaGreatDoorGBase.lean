/- LAID TOGETHER: Sep, Bytes, Own, Free, Tail, Fresh, Row, Open, Tlv. -/
import Derived.WalkKit
import Derived.Below
import Derived.Laws.Rows
import Derived.Laws.BytesArg
import Derived.Carry
import Derived.Lib.SlBytesConst
import Derived.Laws.AppendOwnNone
import Derived.Orders
import Derived.Tactics
import Derived.Deep.QuietTactic
import Derived.ProofKit
import Derived.OpenShut
import Derived.ChangeOld
import Derived.SizedLaws
import Derived.Test.YtgmpmlneoiagdaaGreatDoorRows
import Derived.Handy
/- Separation: parts of the heap as predicates, and how allocations, stores and draws act on them. No Go function is spoken of here. -/
namespace Go.Proofs.YtgmpmlneoiagdaaGreatDoor
open Go.RowKit
set_option linter.unusedVariables false

theorem hide {p : Prop} (h : p) : Hid p := h

/-- a part of the heap -/
abbrev Hp := Nat → Option Obj
def Hp.sub (h h' : Hp) : Prop := ∀ k o, h k = some o → h' k = some o
def Hp.apart (h h' : Hp) : Prop := ∀ k, h k = Option.none ∨ h' k = Option.none
def Hp.or (h h' : Hp) : Hp := fun k => (h k).or (h' k)
def hpOf (w : World) : Hp := fun k => w.heap[k]?

theorem Hp.sub_refl (h : Hp) : h.sub h := fun _ _ e => e
theorem Hp.sub.trans {a b c : Hp} (h : a.sub b) (k : b.sub c) : a.sub c := fun i o e => k i o (h i o e)
theorem Hp.apart.symm {a b : Hp} (h : a.apart b) : b.apart a := fun k => (h k).symm
theorem Hp.apart.sub_right {a b c : Hp} (h : a.apart b) (k : c.sub b) : a.apart c := by
  intro i
  rcases h i with h | h
  · exact .inl h
  · right
    cases hc : c i with
    | none => rfl
    | some o => rw [k i o hc] at h; cases h
theorem Hp.sub_or_left (a b : Hp) : a.sub (a.or b) := fun k o e => by simp [Hp.or, e]
theorem Hp.sub_or_right {a b : Hp} (h : a.apart b) : b.sub (a.or b) := fun k o e => by
  rcases h k with h | h
  · simp [Hp.or, h, e]
  · rw [h] at e; cases e
theorem Hp.or_sub {a b c : Hp} (h : a.sub c) (k : b.sub c) : (a.or b).sub c := fun i o e => by
  simp only [Hp.or, Option.or_eq_some_iff] at e
  rcases e with e | ⟨_, e⟩
  · exact h i o e
  · exact k i o e
theorem Hp.apart_or {a b c : Hp} (h : a.apart b) (k : a.apart c) : a.apart (b.or c) := fun i => by
  rcases h i with h | h
  · exact .inl h
  · rcases k i with k | k
    · exact .inl k
    · right; simp [Hp.or, h, k]

/-- a predicate on a part of the heap -/
structure SP where
  on' : Hp → Prop

def SP.star (P Q : SP) : SP := ⟨fun h => ∃ a b : Hp, a.apart b ∧ a.sub h ∧ b.sub h ∧ P.on' a ∧ Q.on' b⟩
instance : Mul SP := ⟨SP.star⟩

theorem SP.ext {P Q : SP} (h : ∀ x, P.on' x ↔ Q.on' x) : P = Q := by
  cases P; cases Q; congr; funext x; exact propext (h x)

theorem SP.mul_comm (P Q : SP) : P * Q = Q * P :=
  SP.ext fun _ => ⟨fun ⟨a, b, h, h1, h2, p, q⟩ => ⟨b, a, h.symm, h2, h1, q, p⟩, fun ⟨a, b, h, h1, h2, p, q⟩ => ⟨b, a, h.symm, h2, h1, q, p⟩⟩

theorem SP.mul_assoc_le {P Q R : SP} {h : Hp} (H : ((P * Q) * R).on' h) : (P * (Q * R)).on' h := by
  obtain ⟨ab, c, h1, h2, h3, ⟨a, b, g1, g2, g3, p, q⟩, r⟩ := H
  refine ⟨a, b.or c, Hp.apart_or g1 (h1.symm.sub_right g2).symm, g2.trans h2, Hp.or_sub (g3.trans h2) h3, p, b, c, ?_, Hp.sub_or_left _ _, Hp.sub_or_right ?_, q, r⟩
  · exact (h1.symm.sub_right g3).symm
  · exact (h1.symm.sub_right g3).symm

theorem SP.mul_assoc (P Q R : SP) : (P * Q) * R = P * (Q * R) :=
  SP.ext fun h => ⟨SP.mul_assoc_le, fun H => by
    rw [SP.mul_comm P, SP.mul_comm Q] at H
    have := SP.mul_assoc_le H
    rw [SP.mul_comm R, SP.mul_comm Q] at this
    exact this⟩

theorem SP.mul_left_comm (P Q R : SP) : P * (Q * R) = Q * (P * R) := by
  rw [← SP.mul_assoc, SP.mul_comm P Q, SP.mul_assoc]

instance : Std.Associative (α := SP) (· * ·) := ⟨SP.mul_assoc⟩
instance : Std.Commutative (α := SP) (· * ·) := ⟨SP.mul_comm⟩

/-- the world has such a part -/
def SP.on (P : SP) (w : World) : Prop := ∃ h : Hp, h.sub (hpOf w) ∧ P.on' h

theorem SP.on_of_heap {P : SP} {w w' : World} (h : P.on w) (e : w'.heap = w.heap) : P.on w' := by
  obtain ⟨x, hx, p⟩ := h
  exact ⟨x, by intro k o ho; simp only [hpOf, e]; exact hx k o ho, p⟩
theorem SP.on.drew {P : SP} {w : World} (h : P.on w) : P.on w.drew := SP.on_of_heap h rfl

theorem SP.on_mul {P Q : SP} {w : World} : (P * Q).on w ↔ ∃ a b : Hp, a.apart b ∧ a.sub (hpOf w) ∧ b.sub (hpOf w) ∧ P.on' a ∧ Q.on' b := by
  constructor
  · rintro ⟨h, hs, a, b, h1, h2, h3, p, q⟩
    exact ⟨a, b, h1, h2.trans hs, h3.trans hs, p, q⟩
  · rintro ⟨a, b, h1, h2, h3, p, q⟩
    exact ⟨hpOf w, Hp.sub_refl _, a, b, h1, h2, h3, p, q⟩

theorem SP.on.left {P Q : SP} {w : World} (h : (P * Q).on w) : P.on w := by
  obtain ⟨a, b, _, h2, _, p, _⟩ := SP.on_mul.1 h
  exact ⟨a, h2, p⟩
theorem SP.on.right {P Q : SP} {w : World} (h : (P * Q).on w) : Q.on w := by
  obtain ⟨a, b, _, _, h3, _, q⟩ := SP.on_mul.1 h
  exact ⟨b, h3, q⟩

/-- P gives Q, on any part -/
def SP.le (P Q : SP) : Prop := ∀ h, P.on' h → ∃ g : Hp, g.sub h ∧ Q.on' g
theorem SP.le.refl (P : SP) : P.le P := fun h p => ⟨h, Hp.sub_refl _, p⟩
theorem SP.le.trans {P Q R : SP} (h : P.le Q) (k : Q.le R) : P.le R := fun x p => by
  obtain ⟨y, hy, q⟩ := h x p
  obtain ⟨z, hz, r⟩ := k y q
  exact ⟨z, hz.trans hy, r⟩
theorem SP.le.on {P Q : SP} {w : World} (h : P.le Q) (p : P.on w) : Q.on w := by
  obtain ⟨x, hx, p⟩ := p
  obtain ⟨y, hy, q⟩ := h x p
  exact ⟨y, hy.trans hx, q⟩
theorem SP.le_right (P Q : SP) : (P * Q).le Q := fun _ ⟨_, b, _, _, h3, _, q⟩ => ⟨b, h3, q⟩
theorem SP.le.mul {P P' Q Q' : SP} (h : P.le P') (k : Q.le Q') : (P * Q).le (P' * Q') := by
  rintro x ⟨a, b, h1, h2, h3, p, q⟩
  obtain ⟨a', ha, p'⟩ := h a p
  obtain ⟨b', hb, q'⟩ := k b q
  exact ⟨x, Hp.sub_refl _, a', b', (h1.symm.sub_right ha).symm.sub_right hb, ha.trans h2, hb.trans h3, p', q'⟩
/-- one block -/
def blk (b : Nat) (o : Obj) : SP := ⟨fun h => h b = some o⟩
/-- a proposition -/
def pure (p : Prop) : SP := ⟨fun _ => p⟩
def ex {α : Type} (f : α → SP) : SP := ⟨fun h => ∃ a, (f a).on' h⟩
/-- nothing -/
def emp : SP := ⟨fun _ => True⟩

theorem on_mul_emp {P : SP} {w : World} : (P * emp).on w ↔ P.on w :=
  ⟨SP.on.left, fun ⟨h, hs, p⟩ => SP.on_mul.2 ⟨h, fun _ => Option.none, fun _ => .inr rfl, hs, fun _ _ h => (nomatch h), p, trivial⟩⟩
theorem on_emp_mul {P : SP} {w : World} : (emp * P).on w ↔ P.on w := by rw [SP.mul_comm]; exact on_mul_emp

theorem on_pure_mul {p : Prop} {P : SP} {w : World} : (pure p * P).on w ↔ p ∧ P.on w := by
  constructor
  · intro h
    obtain ⟨_, _, hp⟩ := h.left
    exact ⟨hp, h.right⟩
  · rintro ⟨hp, h, hs, q⟩
    exact SP.on_mul.2 ⟨fun _ => Option.none, h, fun _ => .inl rfl, fun _ _ h => (nomatch h), hs, hp, q⟩
theorem on_ex_mul {α : Type} {f : α → SP} {P : SP} {w : World} : (ex f * P).on w ↔ ∃ a, (f a * P).on w := by
  constructor
  · intro h
    obtain ⟨a, b, h1, h2, h3, ⟨x, p⟩, q⟩ := SP.on_mul.1 h
    exact ⟨x, SP.on_mul.2 ⟨a, b, h1, h2, h3, p, q⟩⟩
  · rintro ⟨x, h⟩
    obtain ⟨a, b, h1, h2, h3, p, q⟩ := SP.on_mul.1 h
    exact SP.on_mul.2 ⟨a, b, h1, h2, h3, ⟨x, p⟩, q⟩

theorem on_blk {b : Nat} {o : Obj} {w : World} (h : (blk b o).on w) : w.heap[b]? = some o := by
  obtain ⟨x, hs, p⟩ := h
  exact hs b o p
theorem on_blk_mul {b : Nat} {o : Obj} {P : SP} {w : World} (h : (blk b o * P).on w) : w.heap[b]? = some o := on_blk h.left
/-- a new block -/
theorem SP.on.alloc {P : SP} {w : World} (h : P.on w) (o : Obj) : (blk w.heap.size o * P).on (w.alloc o) := by
  obtain ⟨x, hs, p⟩ := h
  have hsz : x w.heap.size = Option.none := by
    cases e : x w.heap.size with
    | none => rfl
    | some y => have := hs _ _ e; simp [hpOf] at this
  refine SP.on_mul.2 ⟨fun k => if k = w.heap.size then some o else Option.none, x, ?_, ?_, ?_, by simp [blk], p⟩
  · intro k
    by_cases hk : k = w.heap.size
    · right; rw [hk]; exact hsz
    · left; simp [hk]
  · intro k y hy
    by_cases hk : k = w.heap.size
    · subst hk; simp at hy; subst hy; exact heap_alloc_new w _
    · simp [hk] at hy
  · intro k y hy
    have := hs k y hy
    have hlt : k < w.heap.size := (Array.getElem?_eq_some_iff.1 this).1
    exact (Below.heap_alloc w o k hlt).trans this
theorem SP.on.alloc' {P : SP} {w : World} (h : P.on w) (o : Obj) : P.on (w.alloc o) := (h.alloc o).right

/-- one block is changed, all others stay -/
theorem SP.on.turn {P : SP} {b : Nat} {o o' : Obj} {w w' : World} (h : (blk b o * P).on w) (hb : w'.heap[b]? = some o')
    (hk : ∀ k, k < w.heap.size → k ≠ b → w'.heap[k]? = w.heap[k]?) : (blk b o' * P).on w' := by
  obtain ⟨x, y, h1, h2, h3, p, q⟩ := SP.on_mul.1 h
  have hy : y b = Option.none := by
    rcases h1 b with e | e
    · have p' : x b = some o := p
      rw [p'] at e; cases e
    · exact e
  refine SP.on_mul.2 ⟨fun k => if k = b then some o' else Option.none, y, ?_, ?_, ?_, by simp [blk], q⟩
  · intro k
    by_cases hk : k = b
    · right; rw [hk]; exact hy
    · left; simp [hk]
  · intro k z hz
    by_cases hk : k = b
    · subst hk; simp at hz; subst hz; exact hb
    · simp [hk] at hz
  · intro k z hz
    have hkb : k ≠ b := by intro e; subst e; rw [hy] at hz; cases hz
    have := h3 k z hz
    exact (hk k (Array.getElem?_eq_some_iff.1 this).1 hkb).trans this

/-- a store into a block -/
theorem SP.on.setCell {P : SP} {b i : Nat} {c : Array Value} {t : TypeId} {w : World} (h : (blk b (.cells c t (0, 0)) * P).on w) (v : Value) :
    (blk b (.cells (c.setIfInBounds i v) t (0, 0)) * P).on (w.setCell ⟨b, i, Option.none⟩ v) :=
  h.turn (heap_setCell_same w b i c t v (on_blk_mul h)) (fun k _ hk => heap_setCell_other w _ k v hk)

theorem setRow_heap_same (w : World) (g : Nat) (cs cur : Array Value) (t : TypeId) (fr : Nat × Nat) (hg : w.heap[g]? = some (.cells cur t fr)) :
    (w.setRow g cs).heap[g]? = some (.cells cs t fr) := setRow_heap w g cur cs t fr hg
theorem SP.on.setRow {P : SP} {b : Nat} {c : Array Value} {t : TypeId} {w : World} (h : (blk b (.cells c t (0, 0)) * P).on w) (cs : Array Value) :
    (blk b (.cells cs t (0, 0)) * P).on (w.setRow b cs) :=
  h.turn (setRow_heap_same w b cs c t (0, 0) (on_blk_mul h)) (fun k _ hk => setRow_other w b k cs hk)

/-- what lies below the heap's end stays -/
theorem SP.on.below {P : SP} {w w' : World} (h : P.on w) (hb : Below w.heap.size w w') : P.on w' := by
  obtain ⟨x, hs, p⟩ := h
  refine ⟨x, fun k o e => ?_, p⟩
  have := hs k o e
  exact (hb.block k (Array.getElem?_eq_some_iff.1 this).1).trans this

/-- the streams are as they were, and nothing has gone -/
structure Str (w w' : World) : Prop where
  os : w'.os = w.os
  tape : w'.tape = w.tape
  output : w'.output = w.output
  size : w.heap.size ≤ w'.heap.size
theorem Str.refl (w : World) : Str w w := ⟨rfl, rfl, rfl, Nat.le_refl _⟩
theorem Str.trans {a b c : World} (h : Str a b) (k : Str b c) : Str a c := ⟨k.os.trans h.os, k.tape.trans h.tape, k.output.trans h.output, Nat.le_trans h.size k.size⟩
theorem Str.drew {a b : World} (h : Str a b) : Str a b.drew := ⟨h.os, h.tape, h.output, h.size⟩
theorem Str.alloc {a b : World} (h : Str a b) (o : Obj) : Str a (b.alloc o) := ⟨h.os, h.tape, h.output, by have := h.size; simp; omega⟩
theorem Str.setCell {a b : World} (h : Str a b) (p : Addr) (v : Value) : Str a (b.setCell p v) := ⟨h.os, h.tape, h.output, by have := h.size; simp; omega⟩
theorem Str.setRow {a b : World} (h : Str a b) (g : Nat) (cs : Array Value) : Str a (b.setRow g cs) := ⟨h.os, h.tape, h.output, by have := h.size; simp; omega⟩
theorem Str.below {a b : World} {B : Nat} (h : Below B a b) : Str a b := ⟨h.os, h.tape, h.output, h.size⟩

theorem below_setRow {B : Nat} {a w : World} (h : Below B a w) {g : Nat} (hg : B ≤ g) (cs : Array Value) : Below B a (w.setRow g cs) :=
  h.trans ⟨rfl, rfl, rfl, by simp, fun k hk => setRow_other w g k cs (by omega)⟩

/-- all that lies in a world -/
def all (w : World) : SP := ⟨fun h => ∀ k, k < w.heap.size → h k = w.heap[k]?⟩
theorem on_all (w : World) : (all w).on w := ⟨hpOf w, Hp.sub_refl _, fun _ _ => rfl⟩
theorem all_below {w w' : World} (h : (all w).on w') (s : Str w w') : Below w.heap.size w w' :=
  ⟨s.os, s.tape, s.output, s.size, fun k hk => by
    obtain ⟨x, hs, p⟩ := h
    have e : w.heap[k]? = some w.heap[k] := by simp [hk]
    rw [e]
    exact hs k _ ((p k hk).trans e)⟩

theorem all_le {F : SP} {w : World} (h : F.on w) : (all w).le F := by
  obtain ⟨x, hs, p⟩ := h
  intro y hy
  refine ⟨x, fun k o ho => ?_, p⟩
  have hk := hs k o ho
  rw [hy k (Array.getElem?_eq_some_iff.1 hk).1]
  exact hk
theorem on_all_to {Q F : SP} {w w' : World} (h : (Q * all w).on w') (hF : F.on w) : (Q * F).on w' := (SP.le.mul (SP.le.refl Q) (all_le hF)).on h

/-- how a call ends that makes memory and turns none: with a value that has a part of its own -/
def Makes (w : World) (Q : Value → SP) (e : Ending) (w' : World) : Prop := ∃ v, e = .returned v ∧ (Q v * all w).on w' ∧ Str w w'
theorem Makes.below {w w' : World} {Q : Value → SP} {v : Value} (h : (Q v * all w).on w') (s : Str w w') : Below w.heap.size w w' := all_below h.right s
end Go.Proofs.YtgmpmlneoiagdaaGreatDoor

/- Slices of bytes, as lists: what is read of them. No Go function is spoken of here. -/
namespace Go.Proofs.YtgmpmlneoiagdaaGreatDoor
open Go.RowKit
set_option linter.unusedVariables false

/-- a byte, in a cell -/
abbrev vb (x : UInt8) : Value := .int .u8 ((x.toNat : Nat) : Int)

/-- from an address on lie these values -/
def Lay (w : World) (a : Option Addr) (l : List Value) : Prop := ∀ i v, l[i]? = some v → ∃ b off, a = some ⟨b, off, Option.none⟩ ∧ w.cell? ⟨b, off + i, Option.none⟩ = some v

theorem Lay.nil (w : World) (a : Option Addr) : Lay w a [] := fun i v h => by simp at h
theorem Lay.below {w w' : World} {a : Option Addr} {l : List Value} (h : Lay w a l) (hb : Below w.heap.size w w') : Lay w' a l := fun i v e => by
  obtain ⟨b, off, ha, hc⟩ := h i v e
  exact ⟨b, off, ha, (hb.cell (p := ⟨b, off + i, Option.none⟩) (World.block_lt_of_cell? w _ hc)).trans hc⟩
theorem Lay.drop {w : World} {b off : Nat} {l : List Value} (h : Lay w (some ⟨b, off, Option.none⟩) l) (k : Nat) : Lay w (some ⟨b, off + k, Option.none⟩) (l.drop k) := fun i v e => by
  rw [List.getElem?_drop] at e
  obtain ⟨b', off', ha, hc⟩ := h (k + i) v e
  cases ha
  exact ⟨b, off + k, rfl, by rw [Nat.add_assoc]; exact hc⟩
theorem Lay.take {w : World} {a : Option Addr} {l : List Value} (h : Lay w a l) (k : Nat) : Lay w a (l.take k) := fun i v e => by
  rw [List.getElem?_take] at e
  split at e
  · exact h i v e
  · cases e
theorem Lay.isAddr {w : World} {a : Option Addr} {l : List Value} (h : Lay w a l) (k : Nat) (hk : k < l.length) : ∃ b off, a = some ⟨b, off, Option.none⟩ := by
  obtain ⟨b, off, e, _⟩ := h k l[k] (by simp [hk])
  exact ⟨b, off, e⟩
theorem Lay.cell {w : World} {b off : Nat} {l : List Value} (h : Lay w (some ⟨b, off, Option.none⟩) l) (k : Nat) {v : Value} (hk : l[k]? = some v) : w.cell? ⟨b, off + k, Option.none⟩ = some v := by
  obtain ⟨b', off', e, hc⟩ := h k v hk
  cases e
  exact hc

abbrev vbs (l : List UInt8) : List Value := l.map vb
theorem vbs_get (l : List UInt8) (k : Nat) (h : k < l.length) : (vbs l)[k]? = some (vb l[k]) := by simp [vbs, h]

/-- a value reads as bytes -/
def IsBytes (w : World) (v : Value) (l : List UInt8) : Prop := ∃ a c, v = .slice a l.length c ∧ l.length ≤ c ∧ c ≤ maxLen ∧ Lay w a (vbs l) ∧ (a = Option.none → c = 0)
theorem IsBytes.below {w w' : World} {v : Value} {l : List UInt8} (h : IsBytes w v l) (hb : Below w.heap.size w w') : IsBytes w' v l := by
  obtain ⟨a, c, h1, h2, h3, h4, h5⟩ := h
  exact ⟨a, c, h1, h2, h3, h4.below hb, h5⟩
theorem IsBytes.nil (w : World) : IsBytes w (.slice Option.none 0 0) [] := ⟨_, _, rfl, Nat.le_refl _, Nat.zero_le _, Lay.nil _ _, fun _ => rfl⟩

/-- a value reads as a list of lists of bytes -/
def IsRows (w : World) (v : Value) (ls : List (List UInt8)) : Prop := ∃ (a : Option Addr) (c : Nat) (vs : List Value), v = .slice a ls.length c ∧ ls.length ≤ c ∧ c ≤ maxLen ∧ Lay w a vs ∧ vs.length = ls.length ∧
  ∀ (i : Nat) (v : Value) (l : List UInt8), vs[i]? = some v → ls[i]? = some l → IsBytes w v l
theorem IsRows.below {w w' : World} {v : Value} {ls : List (List UInt8)} (h : IsRows w v ls) (hb : Below w.heap.size w w') : IsRows w' v ls := by
  obtain ⟨a, c, vs, h1, h2, h3, h4, h5, h6⟩ := h
  exact ⟨a, c, vs, h1, h2, h3, h4.below hb, h5, fun i v l e e' => (h6 i v l e e').below hb⟩

theorem IsRows.nil (w : World) : IsRows w (.slice Option.none 0 0) [] := ⟨_, _, [], rfl, Nat.le_refl _, Nat.zero_le _, Lay.nil _ _, rfl, fun i v l h => by simp at h⟩

/-- the string of bytes -/
abbrev strOf (l : List UInt8) : ByteArray := ⟨l.toArray⟩
/-- all bits turned -/
theorem xor_ones (n s : Nat) (h : s < 2 ^ n) : (2 ^ n - 1) ^^^ s = 2 ^ n - 1 - s := by
  rw [show 2 ^ n - 1 - s = 2 ^ n - (s + 1) by omega]
  apply Nat.eq_of_testBit_eq
  intro i
  rw [Nat.testBit_xor, Nat.testBit_two_pow_sub_one, Nat.testBit_two_pow_sub_succ h]
  by_cases hi : i < n
  · simp [hi]
  · have : s.testBit i = false := Nat.testBit_lt_two_pow (Nat.lt_of_lt_of_le h (Nat.pow_le_pow_right (by decide) (by omega)))
    simp [hi, this]
theorem not_u32 (s : Nat) (h : s < 4294967296) : bits .xor .u32 IntKind.u32.max (s : Int) = ((4294967295 - s : Nat) : Int) := by
  rw [show IntKind.u32.max = ((4294967295 : Nat) : Int) by decide, u32_xor_nat _ _ (by omega) h]
  rw [show (4294967295 : Nat) = 2 ^ 32 - 1 from rfl, xor_ones 32 s (by omega)]
theorem not_u8 (s : Nat) (h : s < 256) : bits .xor .u8 IntKind.u8.max (s : Int) = ((255 - s : Nat) : Int) := by
  rw [show IntKind.u8.max = ((255 : Nat) : Int) by decide, u8_xor_nat _ _ (by omega) h]
  rw [show (255 : Nat) = 2 ^ 8 - 1 from rfl, xor_ones 8 s (by omega)]
theorem run_string_of {P : Program} {w : World} {src e : TypeId} {a : Option Addr} {c : Nat} {l : List UInt8} (hs : P.underlying src = some (.slice e)) (he : P.underlying e = some (.int .u8)) (h : Lay w a (vbs l))
    (dst : TypeId) (hd : P.underlying dst = some .string) : (convert src dst (.slice a l.length c)).run P w = .ok (.string (strOf l)) w := by
  cases l with
  | nil =>
    cases a with
    | none => exact run_convert_bytes_nil (P := P) w src e hs he _ _ dst hd
    | some ad =>
      rw [run_convert_bytes_string w src dst e _ _ c hs he hd]
      exact run_bytesToString (P := P) w ad 0 c [] rfl
  | cons x l =>
    obtain ⟨b, off, rfl⟩ := h.isAddr 0 (by simp)
    have hx : ((x :: l).map fun y => ((y.toNat : Nat) : Int)).length = (x :: l).length := by simp
    rw [run_convert_bytes_arg (P := P) w src e hs he b off (x :: l).length c ((x :: l).map fun y => ((y.toNat : Nat) : Int)) hx (fun i hi => by
      rw [Lay.cell h i (vbs_get _ i hi)]
      simp only [List.getD_eq_getElem?_getD, List.getElem?_map, List.getElem?_eq_getElem hi, Option.map_some, Option.getD_some]) dst hd]
    congr 2
    have : (strOfNums ((x :: l).map fun y => ((y.toNat : Nat) : Int))).data.toList = x :: l := by
      rw [strOfNums_data, List.map_map]
      conv => rhs; rw [← List.map_id (x :: l)]
      apply List.map_congr_left
      intro y _
      simp
    cases hh : strOfNums ((x :: l).map fun y => ((y.toNat : Nat) : Int)) with
    | mk d => rw [hh] at this; simp only at this; rw [← this]

/-- a row of bytes that was just made -/
theorem Lay.new (w : World) (l : List Value) (t : TypeId) : Lay (w.alloc (.cells l.toArray t)) (some ⟨w.heap.size, 0, Option.none⟩) l := by
  intro i v hv
  exact ⟨_, _, rfl, by rw [Nat.zero_add, World.cell?_alloc_new]; simpa using hv⟩
theorem IsBytes.new (w : World) (l : List UInt8) (h : l.length ≤ maxLen) (t : TypeId) : IsBytes (w.alloc (.cells (vbs l).toArray t)) (.slice (some ⟨w.heap.size, 0, Option.none⟩) l.length l.length) l :=
  ⟨_, _, rfl, Nat.le_refl _, h, Lay.new w _ t, fun h => (nomatch h)⟩
theorem IsRows.new (w : World) (vs : List Value) (ls : List (List UInt8)) (hl : vs.length = ls.length) (h : ls.length ≤ maxLen) (hin : ∀ (i : Nat) (v : Value) (l : List UInt8), vs[i]? = some v → ls[i]? = some l → IsBytes w v l) (t : TypeId) :
    IsRows (w.alloc (.cells vs.toArray t)) (.slice (some ⟨w.heap.size, 0, Option.none⟩) ls.length ls.length) ls :=
  ⟨_, _, vs, rfl, Nat.le_refl _, h, Lay.new w vs t, hl, fun i v l e e' => (hin i v l e e').below ((Below.refl _ _).alloc (Nat.le_refl _) _)⟩

theorem IsRows.one {w : World} {v : Value} {l : List UInt8} (h : IsBytes w v l) (t : TypeId) : IsRows (w.alloc (.cells #[v] t)) (.slice (some ⟨w.heap.size, 0, Option.none⟩) 1 1) [l] :=
  IsRows.new w [v] [l] rfl (by simp [maxLen]) (fun i v l e e' => by
    match i, e, e' with
    | 0, e, e' => simp at e e'; subst e; subst e'; exact h
    | i + 1, e, _ => simp at e) t

end Go.Proofs.YtgmpmlneoiagdaaGreatDoor

/- Slices that a call has made itself: what append, and a store, do. No Go function is spoken of here. -/
namespace Go.Proofs.YtgmpmlneoiagdaaGreatDoor
open Go.RowKit
set_option linter.unusedVariables false
variable {P : Program}

/-- a row of n elements of a type e, of so many cells each -/
def own (e : TypeId) (size : Nat) (v : Value) (n : Nat) (xs : List Value) : SP := ⟨fun h => xs.length = n * size ∧ ((v = .slice Option.none 0 0 ∧ n = 0) ∨
  ∃ g cap cur, v = .slice (some ⟨g, 0, Option.none⟩) n cap ∧ n ≤ cap ∧ cap ≤ maxLen ∧ cur.size = cap * size ∧ cur.toList.take (n * size) = xs ∧ h g = some (.cells cur e (0, 0)))⟩

theorem own_nil {F : SP} {w : World} (e : TypeId) (size : Nat) (h : F.on w) : (own e size (.slice Option.none 0 0) 0 [] * F).on w := by
  obtain ⟨x, hs, q⟩ := h
  exact SP.on_mul.2 ⟨fun _ => Option.none, x, fun _ => .inl rfl, fun _ _ h => (nomatch h), hs, ⟨by simp, .inl ⟨rfl, rfl⟩⟩, q⟩

theorem own_of_blk {F : SP} {w : World} {e : TypeId} {size g n cap : Nat} {cur : Array Value} {xs : List Value} (h : (blk g (.cells cur e (0, 0)) * F).on w)
    (h1 : xs.length = n * size) (h2 : n ≤ cap) (h3 : cap ≤ maxLen) (h4 : cur.size = cap * size) (h5 : cur.toList.take (n * size) = xs) :
    (own e size (.slice (some ⟨g, 0, Option.none⟩) n cap) n xs * F).on w := by
  obtain ⟨a, b, k1, k2, k3, p, q⟩ := SP.on_mul.1 h
  exact SP.on_mul.2 ⟨a, b, k1, k2, k3, ⟨h1, .inr ⟨g, cap, cur, rfl, h2, h3, h4, h5, p⟩⟩, q⟩

/-- a row that was just made -/
theorem own_new {F : SP} {w : World} (e : TypeId) (size n : Nat) (xs : List Value) (h : F.on w) (h1 : xs.length = n * size) (h3 : n ≤ maxLen) :
    (own e size (.slice (some ⟨w.heap.size, 0, Option.none⟩) n n) n xs * F).on (w.alloc (.cells xs.toArray e)) :=
  own_of_blk (h.alloc _) h1 (Nat.le_refl _) h3 (by simp [h1]) (by rw [← h1]; simp)

theorem own_cases {F : SP} {w : World} {e : TypeId} {size n : Nat} {v : Value} {xs : List Value} (h : (own e size v n xs * F).on w) :
    xs.length = n * size ∧ ((v = .slice Option.none 0 0 ∧ n = 0) ∨ ∃ g cap cur, v = .slice (some ⟨g, 0, Option.none⟩) n cap ∧ n ≤ cap ∧ cap ≤ maxLen ∧ cur.size = cap * size ∧ cur.toList.take (n * size) = xs ∧ (blk g (.cells cur e (0, 0)) * F).on w) := by
  obtain ⟨a, b, h1, h2, h3, p, q⟩ := SP.on_mul.1 h
  refine ⟨p.1, ?_⟩
  rcases p.2 with p | ⟨g, cap, cur, e1, e2, e3, e4, e5, e6⟩
  · exact .inl p
  · exact .inr ⟨g, cap, cur, e1, e2, e3, e4, e5, SP.on_mul.2 ⟨a, b, h1, h2, h3, e6, q⟩⟩

/-- what it is as a value -/
theorem own_value {F : SP} {w : World} {e : TypeId} {size n : Nat} {v : Value} {xs : List Value} (h : (own e size v n xs * F).on w) : ∃ a c, v = .slice a n c ∧ n ≤ c ∧ c ≤ maxLen ∧ Lay w a xs ∧ (a = Option.none → c = 0) := by
  obtain ⟨hx, h⟩ := own_cases h
  rcases h with ⟨rfl, rfl⟩ | ⟨g, cap, cur, rfl, e2, e3, e4, e5, e6⟩
  · refine ⟨_, _, rfl, Nat.le_refl _, Nat.zero_le _, ?_, fun _ => rfl⟩
    simp at hx; subst hx; exact Lay.nil _ _
  · refine ⟨_, _, rfl, e2, e3, ?_, fun h => (nomatch h)⟩
    intro i u hu
    refine ⟨_, _, rfl, ?_⟩
    rw [Nat.zero_add, cell_of_row _ _ _ _ _ _ (on_blk_mul e6)]
    rw [← e5, List.getElem?_take] at hu
    split at hu
    · simpa using hu
    · cases hu

theorem own_bytes {F : SP} {w : World} {e : TypeId} {n : Nat} {v : Value} {l : List UInt8} (h : (own e 1 v n (vbs l) * F).on w) : IsBytes w v l := by
  have hn : n = l.length := by have := (own_cases h).1; simp at this; omega
  subst hn
  obtain ⟨a, c, h1, h2, h3, h4, h5⟩ := own_value h
  exact ⟨a, c, h1, h2, h3, h4, h5⟩

theorem run_append_sp {F : SP} {w : World} (t ty e : TypeId) (i : TypeInfo) (z : Value) (size bytes : Nat) (ht : P.underlying t = some (.slice e)) (hi : P.info? e = some i) (hz : i.zero = some z)
    (hsize : i.size = size) (hby : i.bytes = bytes) (hzs : z.cells.size = size) (hsz : 0 < size)
    (v : Value) (n : Nat) (xs : List Value) (hown : (own e size v n xs * F).on w)
    (a : Option Addr) (m c : Nat) (news : List Value) (hac : a = Option.none → c = 0) (hl : news.length = m * size) (hnews : Lay w a news) (h1 : ∀ u ∈ news, u.oneCell' = true)
    (h63 : n + m ≤ maxLen) (hbytes : (n + m) * bytes ≤ 140737488355328) :
    ∃ v' w', (Builtin.append_ #[t, t] ty #[v, .slice a m c]).run P w = .ok v' w' ∧ (own e size v' (n + m) (xs ++ news) * F).on w' ∧ Str w w' := by
  obtain ⟨hx, hv⟩ := own_cases hown
  have hrow : w.ownsRow 0 e size v n xs := by
    refine ⟨hx, ?_⟩
    rcases hv with hv | ⟨g, cap, cur, e1, e2, e3, e4, e5, e6⟩
    · exact .inl hv
    · exact .inr ⟨g, cap, cur, e1, Nat.zero_le _, on_blk_mul e6, e2, e3, e4, e5⟩
  have hlenx : (xs ++ news).length = (n + m) * size := by rw [List.length_append, hx, hl, Nat.add_mul]
  cases a with
  | none =>
    have hm : m = 0 := by
      rcases Nat.eq_zero_or_pos m with h | h
      · exact h
      · have hp : 0 < news.length := by rw [hl]; exact Nat.mul_pos h hsz
        obtain ⟨b, off, e, _⟩ := hnews 0 news[0] (List.getElem?_eq_getElem hp)
        cases e
    subst hm
    obtain rfl : c = 0 := hac rfl
    have hn : news = [] := by cases news with | nil => rfl | cons _ _ => simp at hl
    subst hn
    refine ⟨v, w, run_append_owned_none (P := P) (w := w) 0 t ty e i size ht hi v n xs hrow, ?_, Str.refl _⟩
    simpa using hown
  | some ad =>
    have hnews' : ∀ j u, news[j]? = some u → w.cell? (ad.add j) = some u := by
      intro j u hu
      obtain ⟨b, off, e1, e2⟩ := hnews j u hu
      cases e1
      have : (⟨b, off, Option.none⟩ : Addr).add j = ⟨b, off + j, Option.none⟩ := by unfold Addr.add; split <;> simp_all
      rw [this]; exact e2
    rcases hv with ⟨rfl, rfl⟩ | ⟨g, cap, cur, rfl, e2, e3, e4, e5, e6⟩
    · obtain ⟨v', w', r1, r2, r3, _⟩ := run_append_own (P := P) w w.heap.size t ty e i z size bytes ht hi hz hsize hby hzs hsz _ 0 xs ⟨hx, .inl ⟨rfl, rfl⟩⟩ ad m c news hl hnews' h1 h63 hbytes (Nat.le_refl _)
      refine ⟨v', w', r1, ?_, ⟨r3.os, r3.tape, r3.output, r3.size⟩⟩
      obtain ⟨y, hy, q⟩ := hown.right
      have hy' : y.sub (hpOf w') := fun k o ho => by
        have hk := hy k o ho
        exact (r3.block k (Array.getElem?_eq_some_iff.1 hk).1 (by simp [Value.ownBlock])).trans hk
      rcases r2.2 with ⟨rfl, hn⟩ | ⟨g, cap, cur, rfl, hb, hg, c1, c2, c3, c4⟩
      · exact SP.on_mul.2 ⟨fun _ => Option.none, y, fun _ => .inl rfl, fun _ _ h => (nomatch h), hy', ⟨r2.1, .inl ⟨rfl, hn⟩⟩, q⟩
      · refine SP.on_mul.2 ⟨fun k => if k = g then some (.cells cur e (0, 0)) else Option.none, y, ?_, ?_, hy', ⟨r2.1, .inr ⟨g, cap, cur, rfl, c1, c2, c3, c4, by simp⟩⟩, q⟩
        · intro k
          by_cases hk : k = g
          · right
            cases hyk : y k with
            | none => rfl
            | some o => have := (Array.getElem?_eq_some_iff.1 (hy k o hyk)).1; omega
          · left; simp [hk]
        · intro k o ho
          by_cases hk : k = g
          · subst hk; simp at ho; subst ho; exact hg
          · simp [hk] at ho
    · subst hsize
      subst hby
      by_cases hroom : n + m ≤ cap
      · have hfit : n * i.size + news.length ≤ cur.size := by rw [hl, e4, ← Nat.add_mul]; exact Nat.mul_le_mul_right _ hroom
        have hr := run_append_room (P := P) w t ty e i ht hi g n cap cur (on_blk_mul e6) ad m c news hl hnews' h1 hroom hfit
        refine ⟨_, _, hr, own_of_blk (e6.setRow _) hlenx hroom e3 ?_ ?_, (Str.refl _).setRow _ _⟩
        · simp only [List.size_toArray, List.length_append, List.length_take, List.length_drop, Array.length_toList]
          omega
        · rw [e5, ← hlenx]
          exact List.take_left
      · have hsmall : n + m ≤ 9223372036854775807 := by simp only [maxLen] at h63; omega
        have holds : ∀ j u, xs[j]? = some u → w.cell? ((⟨g, 0, Option.none⟩ : Addr).add j) = some u := hrow.cells (g := g) rfl
        have hr := run_append_grow (P := P) w t ty e i z ht hi hz ⟨g, 0, Option.none⟩ n cap xs hx holds ad m c news hl hnews' (by omega) (by omega) (growslice_fits (by omega) hbytes)
        have hge := grownCap_ge w (n + m) cap e
        have hle := grownCap_le_maxLen w (n + m) cap e h63
        refine ⟨_, _, hr, own_of_blk (SP.on.alloc (w := w.drew) e6.right.drew _) hlenx hge hle ?_ ?_, ((Str.refl _).drew).alloc _⟩
        · simp only [Array.size_append, List.size_toArray, size_zeroCells, hzs]
          rw [show xs.length + news.length = (n + m) * i.size by simpa using hlenx, ← Nat.add_mul]
          congr 1
          omega
        · simp only [Array.toList_append]
          rw [← hlenx]
          exact List.take_left

theorem wpList_append_sp {F : SP} {w : World} {ops : Array Oper} {rest : List Oper} {o : Oper} {a : Act} {Q : Exit → Act → World → Prop} (hgd : o.guard = Option.none) (s x : Operand) (t : TypeId)
    (ho : o.op = .call { callee := .builtin .append, args := #[s, x], argTypes := #[t, t] })
    (e : TypeId) (i : TypeInfo) (z : Value) (size bytes : Nat) (ht : P.underlying t = some (.slice e)) (hi : P.info? e = some i) (hz : i.zero = some z)
    (hsize : i.size = size) (hby : i.bytes = bytes) (hzs : z.cells.size = size) (hsz : 0 < size)
    (v : Value) (n : Nat) (xs : List Value) (hs : a.eval s = v) (hown : (own e size v n xs * F).on w)
    (ad : Option Addr) (m c : Nat) (news : List Value) (hx : a.eval x = .slice ad m c) (hac : ad = Option.none → c = 0) (hl : news.length = m * size) (hnews : Lay w ad news) (h1 : ∀ u ∈ news, u.oneCell' = true)
    (h63 : n + m ≤ maxLen) (hbytes : (n + m) * bytes ≤ 140737488355328)
    (h : ∀ v' w', (own e size v' (n + m) (xs ++ news) * F).on w' → Str w w' → wpList P ops Q rest (a.put o.dst v') w') : wpList P ops Q (o :: rest) a w :=
  wpList_plain hgd fun _ hK => by
    obtain ⟨v', w', hr, h2, h3⟩ := run_append_sp (P := P) t o.type e i z size bytes ht hi hz hsize hby hzs hsz v n xs hown ad m c news hac hl hnews h1 h63 hbytes
    unfold Oper.wp execOp
    simp only [ho, resolve, invoke, builtin, Sem.run_bind, Sem.run_pure, Result.andThen_ok, List.map_toArray, List.map_cons, List.map_nil, hs, hx, hr]
    exact hK _ _ (h v' w' h2 h3)

theorem vbs_one (l : List UInt8) : ∀ u ∈ vbs l, u.oneCell' = true := by
  intro u hu
  simp at hu
  obtain ⟨x, _, rfl⟩ := hu
  rfl

/-- append of bytes to bytes of one's own: the value, as bytes behind it -/
theorem wpList_append_bytes {F : SP} {w : World} {ops : Array Oper} {rest : List Oper} {o : Oper} {a : Act} {Q : Exit → Act → World → Prop} (hgd : o.guard = Option.none) (s x : Operand) (t : TypeId)
    (ho : o.op = .call { callee := .builtin .append, args := #[s, x], argTypes := #[t, t] })
    (e : TypeId) (ht : P.underlying t = some (.slice e)) (hi : (P.info? e).map (fun i => (i.zero, i.size, i.bytes)) = some (some (.int .u8 0), 1, 1))
    (v : Value) (l m : List UInt8) (hs : a.eval s = v) (hown : (own e 1 v l.length (vbs l) * F).on w)
    (vx : Value) (hx : a.eval x = vx) (hm : IsBytes w vx m) (hb : l.length + m.length ≤ 140737488355328)
    (h : ∀ v' w', (own e 1 v' (l ++ m).length (vbs (l ++ m)) * F).on w' → Str w w' → wpList P ops Q rest (a.put o.dst v') w') : wpList P ops Q (o :: rest) a w := by
  obtain ⟨ad, c, rfl, _, _, hl, hc⟩ := hm
  cases hq : P.info? e with
  | none => simp [hq] at hi
  | some i =>
    simp [hq] at hi
    refine wpList_append_sp hgd s x t ho e i (.int .u8 0) 1 1 ht hq hi.1 hi.2.1 hi.2.2 rfl (by decide) v l.length (vbs l) hs hown ad m.length c (vbs m) hx hc (by simp) hl (vbs_one m) (by unfold maxLen; omega) (by omega) ?_
    intro v' w' h2 h3
    refine h v' w' ?_ h3
    have e1 : vbs (l ++ m) = vbs l ++ vbs m := by simp
    rw [e1, List.length_append]
    exact h2

/-- a store into a row of one's own, of elements of one cell -/
theorem own_store {F : SP} {w : World} {e : TypeId} {g n cap j : Nat} {xs : List Value} (h : (own e 1 (.slice (some ⟨g, 0, Option.none⟩) n cap) n xs * F).on w) (hj : j < n) (u : Value) :
    (own e 1 (.slice (some ⟨g, 0, Option.none⟩) n cap) n (xs.set j u) * F).on (w.setCell ⟨g, j, Option.none⟩ u) := by
  obtain ⟨hx, hv⟩ := own_cases h
  rcases hv with ⟨hv, _⟩ | ⟨g', cap', cur, hv, e2, e3, e4, e5, e6⟩
  · cases hv
  · cases hv
    refine own_of_blk (e6.setCell u) (by simpa using hx) e2 e3 (by simpa using e4) ?_
    rw [Array.toList_setIfInBounds, ← e5, List.take_set]
theorem own_free {F : SP} {w : World} {e : TypeId} {g n cap : Nat} {xs : List Value} (h : (own e 1 (.slice (some ⟨g, 0, Option.none⟩) n cap) n xs * F).on w) (j : Nat) : w.frozen? ⟨g, j, Option.none⟩ = false := by
  obtain ⟨hx, hv⟩ := own_cases h
  rcases hv with ⟨hv, _⟩ | ⟨g', cap', cur, hv, e2, e3, e4, e5, e6⟩
  · cases hv
  · cases hv
    exact frozen_of_row _ _ _ _ _ (on_blk_mul e6)
theorem own_cell {F : SP} {w : World} {e : TypeId} {g n cap : Nat} {xs : List Value} (h : (own e 1 (.slice (some ⟨g, 0, Option.none⟩) n cap) n xs * F).on w) (j : Nat) (v : Value) (hj : xs[j]? = some v) : w.cell? ⟨g, j, Option.none⟩ = some v := by
  obtain ⟨a, c, hv, _, _, hl, _⟩ := own_value h
  cases hv
  have := Lay.cell hl j hj
  rwa [Nat.zero_add] at this
/-- a row with elements stands in a block -/
theorem own_block {F : SP} {w : World} {e : TypeId} {size n : Nat} {v : Value} {xs : List Value} (h : (own e size v n xs * F).on w) (hn : 0 < n) : ∃ g cap, v = .slice (some ⟨g, 0, Option.none⟩) n cap ∧ n ≤ cap ∧ cap ≤ maxLen := by
  obtain ⟨hx, hv⟩ := own_cases h
  rcases hv with ⟨_, rfl⟩ | ⟨g', cap', cur, hv, e2, e3, _⟩
  · omega
  · exact ⟨g', cap', hv, e2, e3⟩
theorem vbs_set (l : List UInt8) (j : Nat) (x : UInt8) : (vbs l).set j (vb x) = vbs (l.set j x) := by simp [vbs, List.map_set]

theorem info_some {P : Program} {t : TypeId} {z : Option Value} {n b : Nat} (h : (P.info? t).map (fun i => (i.zero, i.size, i.bytes)) = some (z, n, b)) : ∃ i, P.info? t = some i ∧ i.zero = z ∧ i.size = n ∧ i.bytes = b := by
  cases hq : P.info? t with
  | none => simp [hq] at h
  | some i => simp [hq] at h; exact ⟨i, rfl, h.1, h.2.1, h.2.2⟩
theorem on_all_to2 {Q R F : SP} {w w' : World} (h : (Q * (R * all w)).on w') (hF : F.on w) : (Q * (R * F)).on w' := by
  rw [← SP.mul_assoc] at h ⊢
  exact on_all_to h hF
end Go.Proofs.YtgmpmlneoiagdaaGreatDoor

/- A statement whose operations may be carried out in more than one order: each operation by what it needs and what it gives, in whatever world comes. No Go function is spoken of here. -/
namespace Go.Proofs.YtgmpmlneoiagdaaGreatDoor
open Go.RowKit
set_option linter.unusedVariables false

/-- an operation, its operands being known: it yields a value, or calls what returns one -/
def OpOk (P : Program) (o : Oper) (ev : Operand → Value) (w : World) (R : Value → World → Prop) : Prop :=
  match (execOp ev o).run P w with
  | .ok (.value v) w' => R v w'
  | .ok .skip w' => R undef w'
  | .ok (.enter f args) w' => Calls P f args w' fun e w'' => ∃ v, e = .returned v ∧ R v w''
  | _ => False

/-- what the operation with this number has left -/
def slotOf (ops : Array Oper) (ev : Operand → Value) (i : Nat) : Value := match ops[i]? with
  | some o => (match o.dst with | some d => ev (.tmp d) | Option.none => undef)
  | Option.none => undef
def isDst (ops : Array Oper) : Operand → Bool
  | .tmp t => ops.toList.any (fun o => o.dst == some t)
  | _ => false
/-- what is known of those that it waits for -/
def factsOf (ops : Array Oper) (V : Nat → Value → World → Prop) (ev : Operand → Value) (w : World) : List Edge → Prop
  | [] => True
  | e :: es => (if Region.binds .any e then V e.on (slotOf ops ev e.on) w else True) ∧ factsOf ops V ev w es
/-- what is known of the other slots that it reads -/
def knownOf (ops : Array Oper) (a0 : Act) (ev : Operand → Value) : List Operand → Prop
  | [] => True
  | x :: xs => (if isDst ops x then True else ev x = a0.eval x) ∧ knownOf ops a0 ev xs
/-- what is to be shown of each operation -/
def Base (ev : Operand → Value) : Prop := (∀ c, ev (.const c) = c) ∧ (∀ f, ev (.func f) = .func (.func f) #[] #[]) ∧ ∀ g, ev (.global g) = .pointer (some ⟨g, 0, Option.none⟩)
theorem base_of (a : Act) : Base a.eval := ⟨fun _ => rfl, fun _ => rfl, fun _ => rfl⟩
def Todo (P : Program) (ops : Array Oper) (V : Nat → Value → World → Prop) (T : World → World → Prop) (a0 : Act) (w1 : World) : Nat → List Oper → Prop
  | _, [] => True
  | i, o :: rest => (∀ (ev : Operand → Value) (w : World), T w1 w → Base ev → knownOf ops a0 ev o.op.operands.toList → factsOf ops V ev w o.after.toList →
      match o.guard with
      | Option.none => OpOk P o ev w (fun v w' => V i v w' ∧ T w w')
      | some (j, want) => ∃ b, slotOf ops ev j = .bool b ∧ (b = want → OpOk P o ev w (fun v w' => V i v w' ∧ T w w')) ∧ (b ≠ want → V i undef w)) ∧ Todo P ops V T a0 w1 (i + 1) rest
/-- what is to be shown behind them all -/
def Rest (V : Nat → Value → World → Prop) (Q : Exit → Act → World → Prop) (w : World) : Nat → List Oper → Act → Prop
  | _, [], a => Q .normal a w
  | i, o :: rest, a => ∀ v, V i v w → Rest V Q w (i + 1) rest (a.put o.dst v)

def okOps (ops : Array Oper) (n : Nat) : Bool := (List.range ops.size).all fun i => match ops[i]? with
  | some o => o.after.all (fun e => !Region.binds .any e || decide (e.on < i)) &&
      (match o.dst with | some d => decide (d < n) && (List.range i).all (fun j => (ops[j]?.bind (·.dst)) != some d) | Option.none => true) &&
      (match o.guard with | some (j, _) => o.after.any (fun e => Region.binds .any e && e.on == j) && ((ops[j]?).bind (·.dst)).isSome | Option.none => true)
  | Option.none => true

section
variable {P : Program} {n : Nat} {ops : Array Oper} {V : Nat → Value → World → Prop} {T : World → World → Prop} {a0 : Act} {w1 : World} {Q : Exit → Act → World → Prop}

theorem ok_edge (h : okOps ops n = true) {i : Nat} {o : Oper} (ho : ops[i]? = some o) {e : Edge} (he : e ∈ o.after) (hb : Region.binds .any e = true) : e.on < i := by
  have hi : i < ops.size := (Array.getElem?_eq_some_iff.1 ho).1
  have := List.all_eq_true.1 h i (List.mem_range.2 hi)
  simp only [ho, Bool.and_eq_true] at this
  have h1 := Array.all_eq_true_iff_forall_mem.1 this.1.1 e he
  simpa [hb] using h1
theorem ok_size (h : okOps ops n = true) {i : Nat} {o : Oper} (ho : ops[i]? = some o) {d : Nat} (hd : o.dst = some d) : d < n := by
  have hi : i < ops.size := (Array.getElem?_eq_some_iff.1 ho).1
  have := List.all_eq_true.1 h i (List.mem_range.2 hi)
  simp only [ho, hd, Bool.and_eq_true, decide_eq_true_eq] at this
  exact this.1.2.1
theorem ok_apart (h : okOps ops n = true) {i j : Nat} {o o' : Oper} (ho : ops[i]? = some o) (ho' : ops[j]? = some o') {d : Nat} (hd : o.dst = some d) (hd' : o'.dst = some d) : i = j := by
  have key : ∀ {i j : Nat} {o o' : Oper}, ops[i]? = some o → ops[j]? = some o' → o.dst = some d → o'.dst = some d → j < i → False := by
    intro i j o o' ho ho' hd hd' hlt
    have hi : i < ops.size := (Array.getElem?_eq_some_iff.1 ho).1
    have := List.all_eq_true.1 h i (List.mem_range.2 hi)
    simp only [ho, hd, Bool.and_eq_true] at this
    have h1 := List.all_eq_true.1 this.1.2.2 j (List.mem_range.2 hlt)
    simp [ho', hd'] at h1
  rcases Nat.lt_trichotomy i j with hlt | he | hlt
  · exact (key ho' ho hd' hd hlt).elim
  · exact he
  · exact (key ho ho' hd hd' hlt).elim
theorem ok_guard (h : okOps ops n = true) {i : Nat} {o : Oper} (ho : ops[i]? = some o) {j : Nat} {want : Bool} (hg : o.guard = some (j, want)) : ∃ o' d, ops[j]? = some o' ∧ o'.dst = some d := by
  have hi : i < ops.size := (Array.getElem?_eq_some_iff.1 ho).1
  have := List.all_eq_true.1 h i (List.mem_range.2 hi)
  simp only [ho, hg, Bool.and_eq_true] at this
  have h1 := this.2.2
  cases hj : ops[j]? with
  | none => simp [hj] at h1
  | some o' =>
    simp only [hj, Option.bind_some] at h1
    exact ⟨o', _, rfl, Option.eq_some_of_isSome h1⟩

structure Inv (ops : Array Oper) (V : Nat → Value → World → Prop) (T : World → World → Prop) (a0 : Act) (w1 : World) (listed : Array Bool) (a : Act) (w : World) : Prop where
  t : T w1 w
  defers : a.defers = a0.defers
  size : a.tmps.size = a0.tmps.size
  keep : ∀ (t : Nat), (∀ (i : Nat) (o : Oper), ops[i]? = some o → o.dst ≠ some t) → a.tmps[t]? = a0.tmps[t]?
  vals : ∀ i, i < ops.size → listed.getD i true = true → V i (slotOf ops a.eval i) w

theorem known_of {a : Act} (h : ∀ (t : Nat), (∀ (i : Nat) (o : Oper), ops[i]? = some o → o.dst ≠ some t) → a.tmps[t]? = a0.tmps[t]?) : ∀ xs, knownOf ops a0 a.eval xs
  | [] => trivial
  | x :: xs => by
    refine ⟨?_, known_of h xs⟩
    split
    · trivial
    · rename_i hd
      cases x with
      | tmp t =>
        simp only [isDst, Bool.not_eq_true] at hd
        have : a.tmps[t]? = a0.tmps[t]? := h t (fun i o ho e => by
          have hm : o ∈ ops.toList := by simpa using Array.mem_of_getElem? ho
          have := List.any_eq_false.1 hd o hm
          simp [e] at this)
        simp [Act.eval, Array.getD_eq_getD_getElem?, this]
      | const c => rfl
      | global g => rfl
      | func f => rfl
theorem facts_of {a : Act} {w : World} : ∀ es : List Edge, (∀ e ∈ es, Region.binds .any e = true → V e.on (slotOf ops a.eval e.on) w) → factsOf ops V a.eval w es
  | [], _ => trivial
  | e :: es, h => by
    refine ⟨?_, facts_of es (fun e he => h e (List.mem_cons_of_mem _ he))⟩
    split
    · exact h e List.mem_cons_self (by assumption)
    · trivial
theorem todo_at : ∀ (l : List Oper) (k i : Nat) (o : Oper), Todo P ops V T a0 w1 k l → l[i]? = some o →
    (∀ (ev : Operand → Value) (w : World), T w1 w → Base ev → knownOf ops a0 ev o.op.operands.toList → factsOf ops V ev w o.after.toList →
      match o.guard with
      | Option.none => OpOk P o ev w (fun v w' => V (k + i) v w' ∧ T w w')
      | some (j, want) => ∃ b, slotOf ops ev j = .bool b ∧ (b = want → OpOk P o ev w (fun v w' => V (k + i) v w' ∧ T w w')) ∧ (b ≠ want → V (k + i) undef w))
  | [], _, _, _, _, h => by simp at h
  | x :: l, k, 0, o, h, e => by simp at e; subst e; exact h.1
  | x :: l, k, i + 1, o, h, e => by
    have := todo_at l (k + 1) i o h.2 (by simpa using e)
    rw [show k + (i + 1) = k + 1 + i by omega]
    exact this

theorem slot_put (hok : okOps ops n = true) {a : Act} (hs : a.tmps.size = n) {i j : Nat} {o : Oper} (ho : ops[i]? = some o) (v : Value) (hj : j ≠ i) : slotOf ops (a.put o.dst v).eval j = slotOf ops a.eval j := by
  unfold slotOf
  cases hoj : ops[j]? with
  | none => rfl
  | some o' =>
    simp only []
    cases hd' : o'.dst with
    | none => rfl
    | some d' =>
      simp only []
      cases hd : o.dst with
      | none => rfl
      | some d =>
        have : d ≠ d' := fun e => hj (ok_apart hok hoj ho hd' (by rw [hd, e]))
        simp [Act.put, Act.eval, this]
theorem slot_self (hok : okOps ops n = true) {a : Act} (hs : a.tmps.size = n) {i : Nat} {o : Oper} (ho : ops[i]? = some o) (v : Value) (hv : o.dst = Option.none → v = undef) : slotOf ops (a.put o.dst v).eval i = v := by
  unfold slotOf
  simp only [ho]
  cases hd : o.dst with
  | none => exact (hv hd).symm
  | some d =>
    have := ok_size hok ho hd
    simp [Act.put, Act.eval, hs, this]

theorem inv_put (hok : okOps ops a0.tmps.size = true) (hTt : ∀ a b c, T a b → T b c → T a c) (hVT : ∀ i v w w', V i v w → T w w' → V i v w') {listed : Array Bool} {a : Act} {w w' : World} (h : Inv ops V T a0 w1 listed a w)
    {i : Nat} {o : Oper} (ho : ops[i]? = some o) (v : Value) (ht : T w w') (hv : V i (slotOf ops (a.put o.dst v).eval i) w') : Inv ops V T a0 w1 (listed.setIfInBounds i true) (a.put o.dst v) w' := by
  refine ⟨hTt _ _ _ h.t ht, ?_, ?_, ?_, ?_⟩
  · cases hd : o.dst <;> simp [Act.put, h.defers]
  · cases hd : o.dst <;> simp [Act.put, h.size]
  · intro t htt
    cases hd : o.dst with
    | none => exact h.keep t htt
    | some d =>
      have : d ≠ t := fun e => htt i o ho (by rw [hd, e])
      simp only [Act.put]
      rw [Array.getElem?_setIfInBounds, if_neg this]
      exact h.keep t htt
  · intro j hj hl
    by_cases hji : j = i
    · subst hji; exact hv
    · rw [slot_put hok h.size ho v hji]
      refine hVT _ _ _ _ (h.vals j hj ?_) ht
      rw [Array.getD_eq_getD_getElem?, Array.getElem?_setIfInBounds, if_neg (Ne.symm hji)] at hl
      rw [Array.getD_eq_getD_getElem?]
      exact hl

theorem countP_lt {p q : Nat → Bool} : ∀ (l : List Nat) (i : Nat), i ∈ l → (∀ x, q x = true → p x = true) → p i = true → q i = false → l.countP q < l.countP p
  | [], _, h, _, _, _ => by simp at h
  | x :: l, i, h, hqp, hp, hq => by
    have hle : l.countP q ≤ l.countP p := List.countP_mono_left (fun x _ => hqp x)
    rw [List.countP_cons, List.countP_cons]
    by_cases hx : x = i
    · subst hx; simp [hp, hq]; omega
    · have hm : i ∈ l := by simpa [Ne.symm hx] using h
      have := countP_lt l i hm hqp hp hq
      by_cases hqx : q x = true
      · simp [hqx, hqp x hqx]; omega
      · simp [hqx]; split <;> omega
theorem getD_set {listed : Array Bool} {i j : Nat} (hi : i < listed.size) : (listed.setIfInBounds i true).getD j true = (if j = i then true else listed.getD j true) := by
  rw [Array.getD_eq_getD_getElem?, Array.getD_eq_getD_getElem?, Array.getElem?_setIfInBounds]
  by_cases h : i = j
  · rw [if_pos h, if_pos hi, if_pos h.symm]; rfl
  · rw [if_neg h, if_neg (Ne.symm h)]
theorem count_set {listed : Array Bool} {i : Nat} (hi : i < n) (hn : listed.size = n) (hl : listed.getD i true = false) :
    (List.range n).countP (fun j => !(listed.setIfInBounds i true).getD j true) < (List.range n).countP (fun j => !listed.getD j true) := by
  refine countP_lt _ i (List.mem_range.2 hi) ?_ (by simpa using hl) (by rw [getD_set (by omega)]; simp)
  intro x hx
  rw [getD_set (by omega)] at hx
  split at hx
  · simp at hx
  · exact hx

theorem ready_all (hok : okOps ops n = true) {listed : Array Bool} (hs : listed.size = ops.size) (hr : Region.ready .any ops listed = []) : ∀ i, i < ops.size → listed.getD i true = true := by
  intro i
  induction i using Nat.strongRecOn with
  | ind i ih =>
    intro hi
    cases hl : listed.getD i true with
    | true => rfl
    | false =>
      have hm : i ∈ Region.ready .any ops listed := by
        refine List.mem_filter.2 ⟨List.mem_range.2 hi, ?_⟩
        rw [hl]
        have ho : ops[i]? = some ops[i] := Array.getElem?_eq_getElem hi
        simp only [Bool.not_false, Bool.true_and, ho, Option.map_some, Option.getD_some]
        refine Array.all_eq_true_iff_forall_mem.2 fun e he => ?_
        cases hb : Region.binds .any e with
        | false => simp
        | true =>
          have hlt := ok_edge hok ho he hb
          have h2 := ih e.on hlt (by omega)
          simp only [Bool.not_true, Bool.false_or]
          rw [Array.getD_eq_getD_getElem?, Array.getElem?_eq_getElem (by omega)] at h2 ⊢
          exact h2
      rw [hr] at hm; simp at hm
theorem ready_mem {listed : Array Bool} (hs : listed.size = ops.size) {i : Nat} (hi : i ∈ Region.ready .any ops listed) :
    ∃ o, ops[i]? = some o ∧ i < ops.size ∧ listed.getD i true = false ∧ ∀ e ∈ o.after, Region.binds .any e = true → e.on < ops.size → listed.getD e.on true = true := by
  obtain ⟨h1, h2⟩ := List.mem_filter.1 hi
  have hlt := List.mem_range.1 h1
  have ho : ops[i]? = some ops[i] := Array.getElem?_eq_getElem hlt
  simp only [Bool.and_eq_true, ho, Option.map_some, Option.getD_some] at h2
  refine ⟨_, ho, hlt, by simpa using h2.1, fun e he hb hon => ?_⟩
  have := Array.all_eq_true_iff_forall_mem.1 h2.2 e he
  simp only [hb, Bool.not_true, Bool.false_or] at this
  rw [Array.getD_eq_getD_getElem?, Array.getElem?_eq_getElem (by omega)] at this ⊢
  exact this

theorem wp_of_ok {o : Oper} {a : Act} {w : World} {R : Value → World → Prop} {K : Act → World → Prop} (h : OpOk P o a.eval w R) (hK : ∀ v w', R v w' → (o.dst = Option.none → True) → K (a.put o.dst v) w') : o.wp P a w K Q := by
  unfold OpOk at h
  unfold Oper.wp
  generalize (execOp a.eval o).run P w = r at *
  cases r with
  | ok x w' =>
    cases x with
    | value v => exact hK _ _ h (fun _ => trivial)
    | skip => exact hK _ _ h (fun _ => trivial)
    | enter f args =>
      simp only [Oper.upon]
      refine h.mono ?_
      rintro e w'' ⟨v, rfl, hr⟩
      exact hK _ _ hr (fun _ => trivial)
    | _ => exact h.elim
  | halt x w' => exact h.elim

theorem free_any (hok : okOps ops a0.tmps.size = true) (hTr : ∀ w, T w w) (hTt : ∀ a b c, T a b → T b c → T a c) (hVT : ∀ i v w w', V i v w → T w w' → V i v w') (hV0 : ∀ (i : Nat) (o : Oper), ops[i]? = some o → o.dst = Option.none → ∀ v w, V i v w → V i undef w)
    (htodo : Todo P ops V T a0 w1 0 ops.toList) (hend : ∀ (listed : Array Bool) a w, (∀ i, i < ops.size → listed.getD i true = true) → Inv ops V T a0 w1 listed a w → Q .normal a w) :
    ∀ (fuel : Nat) (listed : Array Bool) (a : Act) (w : World), listed.size = ops.size → (List.range ops.size).countP (fun j => !listed.getD j true) ≤ fuel → Inv ops V T a0 w1 listed a w → wpAny P .any ops Q fuel listed a w
  | 0, listed, a, w, hs, hc, hinv => by
    have hall : ∀ i, i < ops.size → listed.getD i true = true := by
      intro i hi
      have h0 : (List.range ops.size).countP (fun j => !listed.getD j true) = 0 := by omega
      have := List.countP_eq_zero.1 h0 i (List.mem_range.2 hi)
      simpa using this
    refine ⟨?_, hend listed a w hall hinv⟩
    unfold Region.ready
    refine List.filter_eq_nil_iff.2 fun i hi => ?_
    simp [hall i (List.mem_range.1 hi)]
  | fuel + 1, listed, a, w, hs, hc, hinv => by
    refine ⟨fun hr => hend listed a w (ready_all hok hs hr) hinv, fun i hi => ?_⟩
    obtain ⟨o, ho, hlt, hl, haft⟩ := ready_mem hs hi
    have hstep := todo_at ops.toList 0 i o htodo (by simpa using ho)
    have hstep := hstep a.eval w hinv.t (base_of a) (known_of hinv.keep _) (facts_of _ fun e he hb => hinv.vals _ (by have := ok_edge hok ho (by simpa using he) hb; omega) (haft e (by simpa using he) hb (by have := ok_edge hok ho (by simpa using he) hb; omega)))
    rw [Nat.zero_add] at hstep
    have next : ∀ v w', V i v w' ∧ T w w' → wpAny P .any ops Q fuel (listed.setIfInBounds i true) (a.put o.dst v) w' := by
      intro v w' ⟨hv, ht⟩
      refine free_any hok hTr hTt hVT hV0 htodo hend fuel _ _ _ (by simpa using hs) ?_ (inv_put hok hTt hVT hinv ho v ht ?_)
      · have := count_set (n := ops.size) hlt hs hl
        omega
      · cases hd : o.dst with
        | none =>
          have : slotOf ops (a.put Option.none v).eval i = undef := by simp [slotOf, ho, hd]
          rw [this]
          exact hV0 i o ho hd v w' hv
        | some d =>
          have := slot_self hok hinv.size ho v (by rw [hd]; intro h; cases h)
          rw [hd] at this
          rw [this]; exact hv
    unfold wpOp
    simp only [ho]
    cases hg : o.guard with
    | none =>
      rw [hg] at hstep
      rw [if_pos (by simp [Region.wanted, hg])]
      exact .inl (wp_of_ok hstep fun v w' h _ => next v w' h)
    | some jw =>
      obtain ⟨j, want⟩ := jw
      rw [hg] at hstep
      obtain ⟨b, hb, h1, h2⟩ := hstep
      obtain ⟨o', d, ho', hd'⟩ := ok_guard hok ho hg
      have hy : yielded ops a.tmps j = some b := by
        simp only [slotOf, ho', hd', Act.eval, Array.getD_eq_getD_getElem?] at hb
        simp only [yielded, ho', hd', Option.bind_some]
        cases hx : a.tmps[d]? with
        | none => rw [hx] at hb; simp [undef] at hb
        | some x => rw [hx] at hb; simp only [Option.getD_some] at hb; subst hb; rfl
      by_cases hbw : b = want
      · rw [if_pos (by simp [Region.wanted, hg, hy, hbw])]
        exact .inl (wp_of_ok (h1 hbw) fun v w' h _ => next v w' h)
      · rw [if_neg (by simp [Region.wanted, hg, hy, hbw])]
        exact next undef w ⟨h2 hbw, hTr w⟩

/-- the slots as they are in the end -/
def ends (a : Act) (ev : Operand → Value) : List Oper → Act
  | [] => a
  | o :: l => ends (match o.dst with | some d => a.put (some d) (ev (.tmp d)) | Option.none => a.put Option.none undef) ev l
theorem ends_get (ev : Operand → Value) : ∀ (l : List Oper) (a : Act) (t : Nat), (ends a ev l).tmps[t]? = if t < a.tmps.size ∧ (∃ o ∈ l, o.dst = some t) then some (ev (.tmp t)) else a.tmps[t]?
  | [], a, t => by simp [ends]
  | o :: l, a, t => by
    rw [ends, ends_get ev l]
    cases hd : o.dst with
    | none =>
      by_cases hc : t < a.tmps.size ∧ ∃ o, o ∈ l ∧ o.dst = some t <;> simp [Act.put, hd, hc]
    | some d =>
      by_cases hdt : d = t
      · subst hdt
        by_cases hs : d < a.tmps.size <;> simp [Act.put, hd, hs]
      · simp [Act.put, hd, hdt]
theorem ends_defers (ev : Operand → Value) : ∀ (l : List Oper) (a : Act), (ends a ev l).defers = a.defers
  | [], a => rfl
  | o :: l, a => by rw [ends, ends_defers ev l]; cases o.dst <;> rfl
theorem rest_ends {w : World} {ev : Operand → Value} : ∀ (l : List Oper) (k : Nat) (a : Act), (∀ i o, l[i]? = some o → V (k + i) (match o.dst with | some d => ev (.tmp d) | Option.none => undef) w) → Rest V Q w k l a → Q .normal (ends a ev l) w
  | [], _, _, _, h => h
  | o :: l, k, a, hv, h => by
    have h0 := hv 0 o rfl
    have h1 := h _ h0
    have h2 := rest_ends l (k + 1) _ (fun i o' ho' => by
      have := hv (i + 1) o' (by simpa using ho')
      rw [show k + 1 + i = k + (i + 1) by omega]
      exact this) h1
    rw [ends]
    cases hd : o.dst with
    | none => rw [hd] at h2; exact h2
    | some d => rw [hd] at h2; exact h2

/-- A REGION IN WHATEVER ORDER -/
theorem wp_region_free {id : Nat} {l : List Oper} {w0 : World} (V : Nat → Value → World → Prop) (T : World → World → Prop) (hm : P.follows .mixedOrders = true) (hok : okOps l.toArray a0.tmps.size = true)
    (hTr : ∀ w, T w w) (hTt : ∀ a b c, T a b → T b c → T a c) (hVT : ∀ i v w w', V i v w → T w w' → V i v w')
    (hV0 : ∀ (i : Nat) (o : Oper), l.toArray[i]? = some o → o.dst = Option.none → ∀ v w, V i v w → V i undef w)
    (htodo : Todo P l.toArray V T a0 w0.drew 0 l) (hend : ∀ w, T w0.drew w → Rest V Q w 0 l a0) : (Code.region id l.toArray true).wp P Q a0 w0 := by
  refine wp_region_any hm ?_
  refine free_any (a0 := a0) (w1 := w0.drew) hok hTr hTt hVT hV0 (by simpa using htodo) ?_ _ _ _ _ (by simp) ?_ ⟨hTr _, rfl, rfl, fun _ _ => rfl, ?_⟩
  · intro listed a w hall hinv
    have h := rest_ends (ev := a.eval) l 0 a0 (fun i o ho => by
      have hi : i < l.length := (List.getElem?_eq_some_iff.1 ho).1
      have := hinv.vals i (by simpa using hi) (hall i (by simpa using hi))
      rw [Nat.zero_add]
      simpa [slotOf, ho] using this) (hend w hinv.t)
    have : ends a0 a.eval l = a := by
      have h1 := ends_defers a.eval l a0
      have h2 : (ends a0 a.eval l).tmps = a.tmps := by
        apply Array.ext_getElem?
        intro t
        rw [ends_get]
        split
        · rename_i hc
          simp [Act.eval, hinv.size, hc.1]
        · rename_i hc
          by_cases ht : t < a0.tmps.size
          · refine (hinv.keep t fun i o ho e => hc ⟨ht, o, ?_, e⟩).symm
            have : l[i]? = some o := by simpa using ho
            exact List.mem_of_getElem? this
          · rw [Array.getElem?_eq_none (by omega), Array.getElem?_eq_none (by rw [hinv.size]; omega)]
      cases hx : ends a0 a.eval l with
      | mk t d =>
        rw [hx] at h1 h2
        cases a with
        | mk t' d' =>
          have h3 := hinv.defers
          simp only at h1 h2 h3
          rw [h2, h1, ← h3]
    rw [this] at h
    exact h
  · exact Nat.le_trans List.countP_le_length (by simp)
  · intro i hi hl
    rw [Array.getD_eq_getD_getElem?, Array.getElem?_replicate, if_pos hi] at hl
    cases hl
end

abbrev isV (x : Value) : Value → World → Prop := fun v _ => v = x
/-- what is known, from a list -/
def vList (l : List (Value → World → Prop)) (i : Nat) : Value → World → Prop := (l[i]?).getD (fun _ _ => True)
/-- what existed stays -/
abbrev Stay (w w' : World) : Prop := Below w.heap.size w w'
theorem Stay.refl (w : World) : Stay w w := Below.refl _ _
theorem Stay.trans {a b c : World} (h : Stay a b) (k : Stay b c) : Stay a c := Below.trans h (Below.mono k h.size)
def Keep (p : Value → World → Prop) : Prop := ∀ v w w', p v w → Stay w w' → p v w'
theorem Keep.isV (x : Value) : Keep (isV x) := fun _ _ _ h _ => h
theorem vList_keep {l : List (Value → World → Prop)} (h : ∀ p ∈ l, Keep p) : ∀ i v w w', vList l i v w → Stay w w' → vList l i v w' := by
  intro i v w w' hv hs
  unfold vList at *
  cases hx : l[i]? with
  | none => trivial
  | some p =>
    rw [hx] at hv
    exact h p (List.mem_of_getElem? hx) v w w' hv hs

def KeepAll : List (Value → World → Prop) → Prop
  | [] => True
  | p :: l => Keep p ∧ KeepAll l
theorem KeepAll.mem : ∀ {l : List (Value → World → Prop)}, KeepAll l → ∀ p ∈ l, Keep p
  | [], _, _, h => by simp at h
  | p :: l, h, q, hq => by
    rcases List.mem_cons.1 hq with rfl | hq
    · exact h.1
    · exact h.2.mem q hq
theorem Rest.done {V : Nat → Value → World → Prop} {Q : Exit → Act → World → Prop} {w : World} {i : Nat} {a : Act} (h : Q .normal a w) : Rest V Q w i [] a := h
theorem Todo.from' {P : Program} {ops : Array Oper} {V : Nat → Value → World → Prop} {T : World → World → Prop} {a0 : Act} {w1 w2 : World} (h : ∀ w, T w1 w → T w2 w) : ∀ (l : List Oper) (i : Nat), Todo P ops V T a0 w2 i l → Todo P ops V T a0 w1 i l
  | [], _, _ => trivial
  | _ :: l, i, ht => ⟨fun ev w hw => ht.1 ev w (h w hw), Todo.from' h l (i + 1) ht.2⟩
theorem Stay.undrew {w w' : World} (h : Stay w.drew w') : Stay w w' := ⟨h.os, h.tape, h.output, h.size, h.block⟩
/-- A REGION IN WHATEVER ORDER, what is known of its slots being a list; nothing that exists is turned -/
theorem wp_region_vs {P : Program} {id : Nat} {l : List Oper} {w0 : World} {a0 : Act} {Q : Exit → Act → World → Prop} (L : List (Value → World → Prop)) (hm : P.follows .mixedOrders = true) (hok : okOps l.toArray a0.tmps.size = true)
    (hds : (l.all fun o => o.dst.isSome) = true) (hk : KeepAll L) (htodo : Todo P l.toArray (vList L) Stay a0 w0 0 l) (hend : ∀ w, Stay w0 w → Rest (vList L) Q w 0 l a0) : (Code.region id l.toArray true).wp P Q a0 w0 :=
  wp_region_free (vList L) Stay hm hok Stay.refl (fun _ _ _ h k => Stay.trans h k) (vList_keep hk.mem) (fun i o ho hd => by
    have := List.all_eq_true.1 hds o (by simpa using Array.mem_of_getElem? ho)
    simp [hd] at this) (Todo.from' (fun _ h => h.undrew) l 0 htodo) (fun w h => hend w h.undrew)

section
variable {P : Program} {o : Oper} {ev : Operand → Value} {W : World} {R : Value → World → Prop}
theorem OpOk.run {v : Value} {W' : World} (h : (execOp ev o).run P W = .ok (.value v) W') (hr : R v W') : OpOk P o ev W R := by unfold OpOk; rw [h]; exact hr
theorem OpOk.move {x : Operand} {v : Value} (ho : o.op = .move x) (hx : ev x = v) (h : R v W) : OpOk P o ev W R := OpOk.run (v := v) (W' := W) (by simp [execOp, ho, hx]) h
theorem OpOk.assign {x : Operand} {v : Value} (ho : o.op = .assign x) (hx : ev x = v) (h : R v W) : OpOk P o ev W R := OpOk.run (v := v) (W' := W) (by simp [execOp, ho, hx]) h
theorem OpOk.convert {s d : TypeId} {x : Operand} {v vx : Value} {W' : World} (ho : o.op = .convert s d x) (hx : ev x = vx) (hrun : (Go.convert s d vx).run P W = .ok v W') (h : R v W') : OpOk P o ev W R := OpOk.run (v := v) (W' := W') (by simp [execOp, ho, hx, hrun]) h
theorem OpOk.enters {f : FuncId} {args : Array Value} {W' : World} (h : (execOp ev o).run P W = .ok (.enter f args) W') (hc : Calls P f args W' fun e w'' => ∃ v, e = .returned v ∧ R v w'') : OpOk P o ev W R := by unfold OpOk; rw [h]; exact hc
end
end Go.Proofs.YtgmpmlneoiagdaaGreatDoor

/- A statement whose operations may be carried out in more than one order, but for those at its end, that come one behind the other. No Go function is spoken of here. -/
namespace Go.Proofs.YtgmpmlneoiagdaaGreatDoor
open Go.RowKit
set_option linter.unusedVariables false

def waits (ops : Array Oper) (j i : Nat) : Bool := match ops[j]? with
  | some o => o.after.any (fun e => Region.binds .any e && e.on == i)
  | Option.none => false
/-- those from number k on follow one another, and all others -/
def okSeq (ops : Array Oper) (k : Nat) : Bool :=
  ((List.range k).all fun i => (List.range (k + 1)).any fun j => decide (i < j) && waits ops j i) &&
  (List.range ops.size).all fun t => decide (t ≤ k) || waits ops t (t - 1)

def Down (ops : Array Oper) (listed : Array Bool) : Prop :=
  ∀ (i : Nat) (o : Oper), ops[i]? = some o → listed.getD i false = true → ∀ e ∈ o.after, Region.binds .any e = true → listed.getD e.on false = true

section
variable {P : Program} {n : Nat} {ops : Array Oper} {V : Nat → Value → World → Prop} {T : World → World → Prop} {a0 : Act} {w1 : World} {Q : Exit → Act → World → Prop}

theorem waits_edge {j i : Nat} (h : waits ops j i = true) : ∃ o, ops[j]? = some o ∧ ∃ e ∈ o.after, Region.binds .any e = true ∧ e.on = i := by
  unfold waits at h
  cases ho : ops[j]? with
  | none => simp [ho] at h
  | some o =>
    rw [ho] at h
    simp only [Array.any_eq_true', Bool.and_eq_true, beq_iff_eq] at h
    obtain ⟨e, he, hb, hi⟩ := h
    exact ⟨o, rfl, e, he, hb, hi⟩

theorem seq_all {k : Nat} (hq : okSeq ops k = true) {listed : Array Bool} (hd : Down ops listed) : ∀ (t : Nat), k ≤ t → t < ops.size → ∀ (o : Oper), ops[t]? = some o →
    (∀ e ∈ o.after, Region.binds .any e = true → listed.getD e.on false = true) → ∀ i, i < t → listed.getD i false = true := by
  simp only [okSeq, Bool.and_eq_true] at hq
  obtain ⟨hq1, hq2⟩ := hq
  intro t
  induction t with
  | zero => intro _ _ _ _ _ i hi; omega
  | succ t ih =>
    intro hk ht o ho hr
    rcases Nat.lt_or_ge k (t + 1) with hlt | hge
    · have h1 := List.all_eq_true.1 hq2 (t + 1) (List.mem_range.2 ht)
      have h2 : waits ops (t + 1) t = true := by
        simp only [Bool.or_eq_true, decide_eq_true_eq] at h1
        rcases h1 with h1 | h1
        · omega
        · simpa using h1
      obtain ⟨o', ho', e, he, hb, hon⟩ := waits_edge h2
      rw [ho] at ho'; cases ho'
      have hlt' : listed.getD t false = true := by have := hr e he hb; rwa [hon] at this
      intro i hi
      by_cases hit : i = t
      · rw [hit]; exact hlt'
      · have hts : t < ops.size := by omega
        have hot : ops[t]? = some ops[t] := Array.getElem?_eq_getElem hts
        exact ih (by omega) hts _ hot (hd t _ hot hlt') i (by omega)
    · have hkt : k = t + 1 := by omega
      have key : ∀ d i, i + d = k → i < k → listed.getD i false = true := by
        intro d
        induction d using Nat.strongRecOn with
        | ind d ihd =>
          intro i hid hik
          have h1 := List.all_eq_true.1 hq1 i (List.mem_range.2 hik)
          simp only [List.any_eq_true, Bool.and_eq_true, decide_eq_true_eq, List.mem_range] at h1
          obtain ⟨j, hj, hij, hw⟩ := h1
          obtain ⟨o', ho', e, he, hb, hon⟩ := waits_edge hw
          by_cases hjk : j = k
          · rw [hjk, hkt, ho] at ho'; cases ho'
            have := hr e he hb
            rwa [hon] at this
          · have hl := ihd (k - j) (by omega) j (by omega) (by omega)
            have := hd j o' ho' hl e he hb
            rwa [hon] at this
      intro i hi
      exact key (k - i) i (by omega) (by omega)

theorem ready_mem' {listed : Array Bool} {i : Nat} (hi : i ∈ Region.ready .any ops listed) :
    ∃ o, ops[i]? = some o ∧ i < ops.size ∧ listed.getD i true = false ∧ ∀ e ∈ o.after, Region.binds .any e = true → listed.getD e.on false = true := by
  obtain ⟨h1, h2⟩ := List.mem_filter.1 hi
  have hlt := List.mem_range.1 h1
  have ho : ops[i]? = some ops[i] := Array.getElem?_eq_getElem hlt
  simp only [Bool.and_eq_true, ho, Option.map_some, Option.getD_some] at h2
  refine ⟨_, ho, hlt, by simpa using h2.1, fun e he hb => ?_⟩
  have := Array.all_eq_true_iff_forall_mem.1 h2.2 e he
  simpa [hb] using this
theorem getD_set' {listed : Array Bool} {i j : Nat} (hi : i < listed.size) : (listed.setIfInBounds i true).getD j false = (if j = i then true else listed.getD j false) := by
  rw [Array.getD_eq_getD_getElem?, Array.getD_eq_getD_getElem?, Array.getElem?_setIfInBounds]
  by_cases h : i = j
  · rw [if_pos h, if_pos hi, if_pos h.symm]; rfl
  · rw [if_neg h, if_neg (Ne.symm h)]
theorem down_set {listed : Array Bool} (hd : Down ops listed) (hs : listed.size = ops.size) {i : Nat} (hi : i < ops.size) {o : Oper} (ho : ops[i]? = some o) (hr : ∀ e ∈ o.after, Region.binds .any e = true → listed.getD e.on false = true) : Down ops (listed.setIfInBounds i true) := by
  intro j o' ho' hl e he hb
  rw [getD_set' (by omega)] at hl ⊢
  split
  · rfl
  · by_cases hji : j = i
    · subst hji; rw [ho] at ho'; cases ho'; exact hr e he hb
    · rw [if_neg hji] at hl; exact hd j o' ho' hl e he hb
theorem getD_both {listed : Array Bool} {i : Nat} (h : i < listed.size) : listed.getD i true = listed.getD i false := by
  rw [Array.getD_eq_getD_getElem?, Array.getD_eq_getD_getElem?, Array.getElem?_eq_getElem h]; rfl

/-- what is to be shown of each operation ahead of the end -/
def TodoT (P : Program) (pre ops : Array Oper) (V : Nat → Value → World → Prop) (T : World → World → Prop) (a0 : Act) (w1 : World) : Nat → List Oper → Prop
  | _, [] => True
  | i, o :: rest => (∀ (ev : Operand → Value) (w : World), T w1 w → Base ev → knownOf pre a0 ev o.op.operands.toList → factsOf ops V ev w o.after.toList →
      match o.guard with
      | Option.none => OpOk P o ev w (fun v w' => V i v w' ∧ T w w')
      | some (j, want) => ∃ b, slotOf ops ev j = .bool b ∧ (b = want → OpOk P o ev w (fun v w' => V i v w' ∧ T w w')) ∧ (b ≠ want → V i undef w)) ∧ TodoT P pre ops V T a0 w1 (i + 1) rest
theorem todoT_at {pre : Array Oper} : ∀ (l : List Oper) (k i : Nat) (o : Oper), TodoT P pre ops V T a0 w1 k l → l[i]? = some o →
    (∀ (ev : Operand → Value) (w : World), T w1 w → Base ev → knownOf pre a0 ev o.op.operands.toList → factsOf ops V ev w o.after.toList →
      match o.guard with
      | Option.none => OpOk P o ev w (fun v w' => V (k + i) v w' ∧ T w w')
      | some (j, want) => ∃ b, slotOf ops ev j = .bool b ∧ (b = want → OpOk P o ev w (fun v w' => V (k + i) v w' ∧ T w w')) ∧ (b ≠ want → V (k + i) undef w))
  | [], _, _, _, _, h => by simp at h
  | x :: l, k, 0, o, h, e => by simp at e; subst e; exact h.1
  | x :: l, k, i + 1, o, h, e => by
    have := todoT_at l (k + 1) i o h.2 (by simpa using e)
    rw [show k + (i + 1) = k + 1 + i by omega]
    exact this
theorem TodoT.from' {pre : Array Oper} {w2 : World} (h : ∀ w, T w1 w → T w2 w) : ∀ (l : List Oper) (i : Nat), TodoT P pre ops V T a0 w2 i l → TodoT P pre ops V T a0 w1 i l
  | [], _, _ => trivial
  | _ :: l, i, ht => ⟨fun ev w hw => ht.1 ev w (h w hw), TodoT.from' h l (i + 1) ht.2⟩
/-- the end, one behind the other -/
theorem seq_run {N : Nat} (hok : okOps ops N = true) {k : Nat} (hq : okSeq ops k = true) : ∀ (fuel t : Nat) (listed : Array Bool) (a : Act) (w : World), listed.size = ops.size → Down ops listed → k ≤ t → t ≤ ops.size → ops.size - t ≤ fuel →
    (∀ i, i < t → listed.getD i true = true) → (∀ i, t ≤ i → i < ops.size → listed.getD i true = false) → wpList P ops Q (ops.toList.drop t) a w → wpAny P .any ops Q fuel listed a w := by
  have hnone : ∀ (t : Nat) (listed : Array Bool), ops.size ≤ t → (∀ i, i < t → listed.getD i true = true) → Region.ready .any ops listed = [] := by
    intro t listed ht hl
    unfold Region.ready
    refine List.filter_eq_nil_iff.2 fun i hi => ?_
    simp [hl i (by have := List.mem_range.1 hi; omega)]
  intro fuel
  induction fuel with
  | zero =>
    intro t listed a w hs hd hk ht hf hl hu hw
    have ht2 : t = ops.size := by omega
    subst ht2
    rw [List.drop_of_length_le (by simp)] at hw
    exact ⟨hnone _ _ (Nat.le_refl _) hl, hw⟩
  | succ fuel ih =>
    intro t listed a w hs hd hk ht hf hl hu hw
    by_cases ht2 : t = ops.size
    · subst ht2
      rw [List.drop_of_length_le (by simp)] at hw
      refine ⟨fun _ => hw, fun i hi => ?_⟩
      rw [hnone _ _ (Nat.le_refl _) hl] at hi
      simp at hi
    · have htl : t < ops.size := by omega
      have hot : ops[t]? = some ops[t] := Array.getElem?_eq_getElem htl
      have hmem : t ∈ Region.ready .any ops listed := by
        refine List.mem_filter.2 ⟨List.mem_range.2 htl, ?_⟩
        rw [hu t (Nat.le_refl _) htl]
        simp only [Bool.not_false, Bool.true_and, hot, Option.map_some, Option.getD_some]
        refine Array.all_eq_true_iff_forall_mem.2 fun e he => ?_
        cases hb : Region.binds .any e with
        | false => simp
        | true =>
          have hlt := ok_edge hok hot he hb
          have h2 := hl e.on (by omega)
          rw [getD_both (by omega)] at h2
          simp [h2]
      refine ⟨fun hr => by rw [hr] at hmem; simp at hmem, fun i hi => ?_⟩
      obtain ⟨o, ho, hlt, hli, haft⟩ := ready_mem' hi
      have hit : i = t := by
        rcases Nat.lt_trichotomy i t with h | h | h
        · rw [hl i h] at hli; cases hli
        · exact h
        · have := seq_all hq hd i (by omega) hlt o ho haft t h
          rw [← getD_both (by omega), hu t (Nat.le_refl _) htl] at this
          cases this
      subst hit
      have hdrop : ops.toList.drop i = ops[i] :: ops.toList.drop (i + 1) := by
        rw [List.drop_eq_getElem_cons (by simpa using htl)]; simp
      rw [hdrop] at hw
      have next : ∀ a w, wpList P ops Q (ops.toList.drop (i + 1)) a w → wpAny P .any ops Q fuel (listed.setIfInBounds i true) a w := by
        intro a w h
        refine ih (i + 1) _ a w (by simpa using hs) (down_set hd hs hlt ho haft) (by omega) (by omega) (by omega) ?_ ?_ h
        · intro j hj
          rw [getD_set (by omega)]
          split
          · rfl
          · exact hl j (by omega)
        · intro j hj hj2
          rw [getD_set (by omega), if_neg (by omega)]
          exact hu j (by omega) hj2
      have hoe : ops[i] = o := by rw [hot] at ho; exact Option.some.inj ho
      rw [hoe] at hw
      unfold wpList at hw
      unfold wpOp
      simp only [ho]
      split at hw
      · rename_i hwt
        rw [if_pos hwt]
        rcases hw with hw | hw
        · exact .inl (Oper.wp_mono next hw)
        · exact .inr hw
      · rename_i hwt
        rw [if_neg hwt]
        exact next _ _ hw

/-- the slots of the end are as they were -/
def KeepEnd (ops : Array Oper) (k : Nat) (a0 a : Act) : Prop := ∀ (j : Nat) (o : Oper) (t : Nat), k ≤ j → ops[j]? = some o → o.dst = some t → a.tmps[t]? = a0.tmps[t]?
theorem tail_any (hok : okOps ops a0.tmps.size = true) {k : Nat} (hq : okSeq ops k = true) (hkn : k < ops.size) (hTr : ∀ w, T w w) (hTt : ∀ a b c, T a b → T b c → T a c) (hVT : ∀ i v w w', V i v w → T w w' → V i v w')
    (hV0 : ∀ (i : Nat) (o : Oper), i < k → ops[i]? = some o → o.dst = Option.none → ∀ v w, V i v w → V i undef w)
    (htodo : TodoT P (ops.toList.take k).toArray ops V T a0 w1 0 (ops.toList.take k)) (hend : ∀ (listed : Array Bool) a w, (∀ i, i < k → listed.getD i true = true) → Inv ops V T a0 w1 listed a w → KeepEnd ops k a0 a → wpList P ops Q (ops.toList.drop k) a w) :
    ∀ (fuel : Nat) (listed : Array Bool) (a : Act) (w : World), listed.size = ops.size → (List.range ops.size).countP (fun j => !listed.getD j true) ≤ fuel → Down ops listed → (∀ i, k ≤ i → i < ops.size → listed.getD i true = false) → Inv ops V T a0 w1 listed a w → KeepEnd ops k a0 a → wpAny P .any ops Q fuel listed a w
  | 0, listed, a, w, hs, hc, hd, hu, hinv, hke => by
    have h0 : (List.range ops.size).countP (fun j => !listed.getD j true) = 0 := by omega
    have := List.countP_eq_zero.1 h0 k (List.mem_range.2 hkn)
    simp [hu k (Nat.le_refl _) hkn] at this
  | fuel + 1, listed, a, w, hs, hc, hd, hu, hinv, hke => by
    have hke2 : ∀ i (o : Oper), i < k → ops[i]? = some o → ∀ v, KeepEnd ops k a0 (a.put o.dst v) := by
      intro i o hik ho v j o' t hj ho' ht
      have h1 := hke j o' t hj ho' ht
      cases hdd : o.dst with
      | none => exact h1
      | some d =>
        have : d ≠ t := fun e => by have := ok_apart hok ho ho' hdd (e ▸ ht); omega
        simp only [Act.put]
        rw [Array.getElem?_setIfInBounds, if_neg this]
        exact h1
    refine ⟨fun hr => ?_, fun i hi => ?_⟩
    · have := ready_all hok hs hr k hkn
      rw [hu k (Nat.le_refl _) hkn] at this
      cases this
    obtain ⟨o, ho, hlt, hl, haft⟩ := ready_mem' hi
    by_cases hik : i < k
    · have hstep := todoT_at (ops.toList.take k) 0 i o htodo (by rw [List.getElem?_take, if_pos hik]; simpa using ho)
      have hkeep : ∀ (t : Nat), (∀ (i : Nat) (o : Oper), (ops.toList.take k).toArray[i]? = some o → o.dst ≠ some t) → a.tmps[t]? = a0.tmps[t]? := by
        intro t htt
        by_cases hex : ∃ (j : Nat) (o : Oper), k ≤ j ∧ ops[j]? = some o ∧ o.dst = some t
        · obtain ⟨j, o', hj, ho', hdt⟩ := hex
          exact hke j o' t hj ho' hdt
        · refine hinv.keep t fun j o' ho' e => ?_
          by_cases hjk : j < k
          · refine htt j o' ?_ e
            simp only [List.getElem?_toArray, List.getElem?_take, if_pos hjk]
            simpa using ho'
          · exact hex ⟨j, o', by omega, ho', e⟩
      have hstep := hstep a.eval w hinv.t (base_of a) (known_of hkeep _) (facts_of _ fun e he hb => hinv.vals _ (by have := ok_edge hok ho (by simpa using he) hb; omega) (by
        have h1 := haft e (by simpa using he) hb
        have h2 := ok_edge hok ho (by simpa using he) hb
        rw [getD_both (by omega)]; exact h1))
      rw [Nat.zero_add] at hstep
      have next : ∀ v w', V i v w' ∧ T w w' → wpAny P .any ops Q fuel (listed.setIfInBounds i true) (a.put o.dst v) w' := by
        intro v w' ⟨hv, ht⟩
        refine tail_any hok hq hkn hTr hTt hVT hV0 htodo hend fuel _ _ _ (by simpa using hs) ?_ (down_set hd hs hlt ho haft) ?_ (inv_put hok hTt hVT hinv ho v ht ?_) ?_
        · have := count_set (n := ops.size) hlt hs hl
          omega
        · intro j hj hj2
          rw [getD_set (by omega), if_neg (by omega)]
          exact hu j hj hj2
        · cases hdd : o.dst with
          | none =>
            have : slotOf ops (a.put Option.none v).eval i = undef := by simp [slotOf, ho, hdd]
            rw [this]
            exact hV0 i o hik ho hdd v w' hv
          | some d =>
            have := slot_self hok hinv.size ho v (by rw [hdd]; intro h; cases h)
            rw [hdd] at this
            rw [this]; exact hv
        · exact hke2 i o hik ho v
      unfold wpOp
      simp only [ho]
      cases hg : o.guard with
      | none =>
        rw [hg] at hstep
        rw [if_pos (by simp [Region.wanted, hg])]
        exact .inl (wp_of_ok hstep fun v w' h _ => next v w' h)
      | some jw =>
        obtain ⟨j, want⟩ := jw
        rw [hg] at hstep
        obtain ⟨b, hb, h1, h2⟩ := hstep
        obtain ⟨o', d, ho', hd'⟩ := ok_guard hok ho hg
        have hy : yielded ops a.tmps j = some b := by
          simp only [slotOf, ho', hd', Act.eval, Array.getD_eq_getD_getElem?] at hb
          simp only [yielded, ho', hd', Option.bind_some]
          cases hx : a.tmps[d]? with
          | none => rw [hx] at hb; simp [undef] at hb
          | some x => rw [hx] at hb; simp only [Option.getD_some] at hb; subst hb; rfl
        by_cases hbw : b = want
        · rw [if_pos (by simp [Region.wanted, hg, hy, hbw])]
          exact .inl (wp_of_ok (h1 hbw) fun v w' h _ => next v w' h)
        · rw [if_neg (by simp [Region.wanted, hg, hy, hbw])]
          exact next undef w ⟨h2 hbw, hTr w⟩
    · have hall := seq_all hq hd i (by omega) hlt o ho haft
      have hik2 : i = k := by
        rcases Nat.lt_or_ge k i with h | h
        · have := hall k h
          rw [← getD_both (by omega), hu k (Nat.le_refl _) hkn] at this
          cases this
        · omega
      subst hik2
      have hall2 : ∀ j, j < i → listed.getD j true = true := fun j hj => by rw [getD_both (by omega)]; exact hall j hj
      have hw := seq_run hok hq (fuel + 1) i listed a w hs hd (Nat.le_refl _) (by omega) ?_ hall2 hu (hend listed a w hall2 hinv hke)
      · exact hw.2 i hi
      · have : ops.size - i ≤ (List.range ops.size).countP (fun j => !listed.getD j true) := by
          have h1 : (List.range' i (ops.size - i)).countP (fun j => !listed.getD j true) = ops.size - i := by
            rw [List.countP_eq_length.2]
            · simp
            · intro j hj
              rw [List.mem_range'_1] at hj
              simp [hu j hj.1 (by omega)]
          rw [← h1]
          have e : List.range ops.size = List.range' 0 i ++ List.range' i (ops.size - i) := by
            rw [List.range_eq_range', show List.range' i (ops.size - i) = List.range' (0 + 1 * i) (ops.size - i) by simp, List.range'_append]; congr 1; omega
          rw [e, List.countP_append]
          omega
        omega
end

/-- A REGION IN WHATEVER ORDER, whose operations from number k on come one behind the other -/
theorem wp_region_tail {P : Program} {id : Nat} {ops : List Oper} {w0 : World} {a0 : Act} {Q : Exit → Act → World → Prop} (k : Nat) (L : List (Value → World → Prop)) {l1 l2 : List Oper} (h1 : ops.take k = l1) (h2 : ops.drop k = l2) (hm : P.follows .mixedOrders = true) (hok : okOps ops.toArray a0.tmps.size = true)
    (hq : okSeq ops.toArray k = true) (hkn : k < ops.length) (hds : (l1.all fun o => o.dst.isSome) = true) (hk : KeepAll L) (htodo : TodoT P l1.toArray ops.toArray (vList L) Stay a0 w0 0 l1)
    (hend : ∀ w, Stay w0 w → Rest (vList L) (fun _ a w => wpList P ops.toArray Q l2 a w) w 0 l1 a0) : (Code.region id ops.toArray true).wp P Q a0 w0 := by
  subst h1 h2
  refine wp_region_any hm ?_
  refine tail_any (V := vList L) (T := Stay) (a0 := a0) (w1 := w0.drew) (k := k) hok hq (by simpa using hkn) Stay.refl (fun _ _ _ h k => Stay.trans h k) (vList_keep hk.mem) (fun i o hi ho hd => by
    have hm : o ∈ ops.take k := by
      have : (ops.take k)[i]? = some o := by rw [List.getElem?_take, if_pos hi]; simpa using ho
      exact List.mem_of_getElem? this
    have := List.all_eq_true.1 hds o hm
    simp [hd] at this) (by simpa using TodoT.from' (fun _ h => h.undrew) _ 0 htodo) ?_ _ _ _ _ (by simp) ?_ ?_ ?_ ⟨Stay.refl _, rfl, rfl, fun _ _ => rfl, ?_⟩ (fun _ _ _ _ _ _ => rfl)
  · intro listed a w hall hinv hke
    have h := rest_ends (ev := a.eval) (ops.take k) 0 a0 (fun i o ho => by
      have hi : i < (ops.take k).length := (List.getElem?_eq_some_iff.1 ho).1
      simp only [List.length_take] at hi
      have := hinv.vals i (by simp; omega) (hall i (by omega))
      rw [Nat.zero_add]
      rw [List.getElem?_take, if_pos (by omega)] at ho
      simpa [slotOf, ho] using this) (hend w hinv.t.undrew)
    have : ends a0 a.eval (ops.take k) = a := by
      have h1 := ends_defers a.eval (ops.take k) a0
      have h2 : (ends a0 a.eval (ops.take k)).tmps = a.tmps := by
        apply Array.ext_getElem?
        intro t
        rw [ends_get]
        split
        · rename_i hc
          simp [Act.eval, hinv.size, hc.1]
        · rename_i hc
          by_cases ht : t < a0.tmps.size
          · by_cases hex : ∃ (j : Nat) (o : Oper), k ≤ j ∧ ops.toArray[j]? = some o ∧ o.dst = some t
            · obtain ⟨j, o, hj, ho, hdt⟩ := hex
              exact (hke j o t hj ho hdt).symm
            · refine (hinv.keep t fun i o ho e => ?_).symm
              by_cases hik : i < k
              · refine hc ⟨ht, o, ?_, e⟩
                have : (ops.take k)[i]? = some o := by rw [List.getElem?_take, if_pos hik]; simpa using ho
                exact List.mem_of_getElem? this
              · exact hex ⟨i, o, by omega, ho, e⟩
          · rw [Array.getElem?_eq_none (by omega), Array.getElem?_eq_none (by rw [hinv.size]; omega)]
      cases hx : ends a0 a.eval (ops.take k) with
      | mk t d =>
        rw [hx] at h1 h2
        cases a with
        | mk t' d' =>
          have h3 := hinv.defers
          simp only at h1 h2 h3
          rw [h2, h1, ← h3]
    rw [this] at h
    simpa using h
  · exact Nat.le_trans List.countP_le_length (by simp)
  · intro i o ho hl
    rw [Array.getD_eq_getD_getElem?, Array.getElem?_replicate] at hl
    split at hl <;> cases hl
  · intro i _ hi
    rw [Array.getD_eq_getD_getElem?, Array.getElem?_replicate, if_pos hi]; rfl
  · intro i hi hl
    rw [Array.getD_eq_getD_getElem?, Array.getElem?_replicate, if_pos hi] at hl
    cases hl
end Go.Proofs.YtgmpmlneoiagdaaGreatDoor

/- append to a row that has no room, and that nobody else has: a new row, and all that was is as it was. No Go function is spoken of here. -/
namespace Go.Proofs.YtgmpmlneoiagdaaGreatDoor
open Go.RowKit
set_option linter.unusedVariables false
variable {P : Program}

theorem OpOk.append {o : Oper} {ev : Operand → Value} {W W' : World} {R : Value → World → Prop} {x y : Operand} {t : TypeId} {vs vx v' : Value} (ho : o.op = .call { callee := .builtin .append, args := #[x, y], argTypes := #[t, t] })
    (hs : ev x = vs) (hx : ev y = vx) (hr : (Builtin.append_ #[t, t] o.type #[vs, vx]).run P W = .ok v' W') (h : R v' W') : OpOk P o ev W R :=
  OpOk.run (v := v') (W' := W') (by simp only [execOp, ho, resolve, invoke, builtin, Sem.run_bind, Sem.run_pure, Result.andThen_ok, List.map_toArray, List.map_cons, List.map_nil, hs, hx, hr]) h
/-- two results: a row in memory, and a slot -/
theorem results_cell_row_tmp {fn : Func} {p u : Tmp} {ty : TypeId} (h : fn.results = #[.cell p ty, .tmp u]) (tmps : Array Value) (w : World) (g : Nat) (t : TypeId) (cs : Array Value) (fr : Nat × Nat) (d : TypeDesc)
    (hp : tmps.getD p undef = .pointer (some ⟨g, 0, Option.none⟩)) (hg : w.heap[g]? = some (.cells cs t fr))
    (hu : P.underlying ty = some d) (hd : (match d with | .struct _ | .array _ _ => true | _ => false) = true) (hi : (P.info? ty).map (·.size) = some cs.size) (x : Value) (hx : tmps.getD u undef = x) :
    (results fn tmps).run P w = .ok (.tuple #[.agg cs, x]) w := by
  have hp' : tmps[p]?.getD undef = .pointer (some ⟨g, 0, Option.none⟩) := by simpa using hp
  have hx' : tmps[u]?.getD undef = x := by simpa using hx
  simp [results, h, hp', hx', asAddr, run_loadVar_row w g t ty cs fr d hg hu hd hi]
theorem SP.on.drewN {Q : SP} {w : World} (h : Q.on w) (n : Nat) : Q.on (w.drewN n) := SP.on_of_heap h rfl
theorem Str.drewN {a b : World} (h : Str a b) (n : Nat) : Str a (b.drewN n) := ⟨h.os, h.tape, h.output, h.size⟩
theorem Below.drewN' {B : Nat} {a b : World} (h : Below B a b) (n : Nat) : Below B a (b.drewN n) := ⟨h.os, h.tape, h.output, h.size, h.block⟩
end Go.Proofs.YtgmpmlneoiagdaaGreatDoor

/- Rows in memory: loads of a whole row, in a region and behind a guard. No Go function is spoken of. -/
namespace Go.Proofs.YtgmpmlneoiagdaaGreatDoor
open Go.RowKit
set_option linter.unusedVariables false
variable {P : Program}
theorem OpOk.load_row {o : Oper} {ev : Operand → Value} {W : World} {R : Value → World → Prop} (ty : TypeId) (x : Operand) (ho : o.op = .load ty x)
    (g : Nat) (hx : ev x = .pointer (some ⟨g, 0, Option.none⟩)) (t : TypeId) (cs : Array Value) (fr : Nat × Nat) (d : TypeDesc) (hg : W.heap[g]? = some (.cells cs t fr))
    (hu : P.underlying ty = some d) (hd : (match d with | .struct _ | .array _ _ => true | _ => false) = true) (hi : (P.info? ty).map (·.size) = some cs.size)
    (h : R (.agg cs) W) : OpOk P o ev W R :=
  OpOk.run (v := .agg cs) (W' := W) (by
    unfold execOp
    simp only [ho, hx, Instr.loadAt, Instr.sureAddr, Sem.run_bind, Sem.run_pure, Result.andThen_ok, run_loadVar_row W g t ty cs fr d hg hu hd hi, Sem.run_pure, Result.andThen_ok]) h
end Go.Proofs.YtgmpmlneoiagdaaGreatDoor

/- How arguments read: bytes, lists of bytes. No Go function is spoken of here. -/
namespace Go.Proofs.YtgmpmlneoiagdaaGreatDoor
open Go.ChangeShapes Go.WideShapes Go.ChangeAt Go.RowKit
set_option linter.unusedVariables false
variable {H : Type} {enc : TypeId × Value → H} {P : Program} {w : World} {base : Nat} {spare : Nat → Bool} {held : Bool}

theorem addr_add_spot {w : World} {a : Addr} {v : Value} (h : w.cell? (a.add 0) = some v) : ∃ b off, a = ⟨b, off, Option.none⟩ ∧ ∀ i, a.add i = ⟨b, off + i, Option.none⟩ := by
  obtain ⟨b, off, spot⟩ := a
  have hs := World.cell?_spot h
  have : spot = Option.none := by simpa [Addr.add] using hs
  subst this
  exact ⟨b, off, rfl, fun i => by unfold Addr.add; split <;> simp_all⟩

/-- what is read is so long -/
def LenOf (d : DataW H) (n : Nat) : Prop := n = 0 ∨ ∃ es sp, d = .slice es sp ∧ n = es.length
theorem trod_bytes {t e : TypeId} {fuel : Nat} {cs : List Value} {x : DataW H × List MemPlace} (ht : P.underlying t = some (.slice e)) (he : P.underlying e = some (.int .u8)) (hc : P.cellsOf e = 1)
    (h : DataW.trod enc P w base spare held fuel t cs = some x) : ∃ v l, cs = [v] ∧ IsBytes w v l ∧ LenOf x.1 l.length := by
  rcases open_ints ht he hc h with ⟨hcs, hx⟩ | ⟨a, len, cap, zs, hcs, _, hl, hm, hz, hx, hcell, hwz⟩
  · exact ⟨_, [], hcs, IsBytes.nil w, .inl rfl⟩
  · have hzl : len ≤ zs.length := by rw [hz]; split <;> omega
    refine ⟨_, (zs.take len).map fun n => UInt8.ofNat n.toNat, hcs, ⟨some a, cap, by simp; omega, by simp; omega, hm, ?_, fun h => (nomatch h)⟩, .inr ⟨_, _, by rw [hx], by simp [lits]⟩⟩
    intro i v hv
    simp only [List.getElem?_map] at hv
    have hi : i < len := by
      rcases Nat.lt_or_ge i len with h | h
      · exact h
      · rw [List.getElem?_eq_none (by simp; omega)] at hv; simp at hv
    have hce := hcell i (by omega)
    obtain ⟨b, off, rfl, hadd⟩ := addr_add_spot (hcell 0 (by omega))
    refine ⟨b, off, rfl, ?_⟩
    rw [← hadd, hce]
    rw [List.getElem?_take, if_pos hi, List.getElem?_eq_getElem (by omega)] at hv
    simp only [Option.map_some, Option.some.injEq] at hv
    rw [← hv]
    have hw := hwz zs[i] (List.getElem_mem _)
    simp only [List.getD_eq_getElem?_getD, List.getElem?_eq_getElem (show i < zs.length by omega), Option.getD_some]
    generalize zs[i] = n at hw
    simp [Lit.wf, IntKind.min, IntKind.max, IntKind.bits, IntKind.signed] at hw
    obtain ⟨m, rfl⟩ := Int.eq_ofNat_of_zero_le hw.1
    have : (UInt8.ofNat m).toNat = m := by simp; omega
    simp [vb, this]

theorem open_bytes {t e : TypeId} {v : Value} {d : DataW H} {p : List MemPlace} {r : _} {base' : Nat} (ht : P.underlying t = some (.slice e)) (he : P.underlying e = some (.int .u8)) (hc : P.cellsOf e = 1)
    (hv : Value.okWide P w r base' t v) (h : DataW.Trod enc P w base spare held t v d p) : ∃ l, IsBytes w v l ∧ LenOf d l.length := by
  obtain ⟨a, len, cap, rfl⟩ := okWide_slice ht hv
  obtain ⟨fuel, hf⟩ := h
  obtain ⟨v, l, hcs, hb, hn⟩ := trod_bytes ht he hc hf
  simp [Value.cells] at hcs
  subst hcs
  exact ⟨l, hb, hn⟩
theorem wf_u8 {n : Int} (h : (Lit.int .u8 n).wf = true) : 0 ≤ n ∧ n ≤ 255 := by
  simpa [Lit.wf, IntKind.min, IntKind.max, IntKind.bits, IntKind.signed] using h
end Go.Proofs.YtgmpmlneoiagdaaGreatDoor

/- The small Go functions of tlv: which item may follow, and a copy of bytes; items in memory. -/
namespace Go.Proofs.YtgmpmlneoiagdaaGreatDoor
open Go.ChangeShapes Go.WideShapes Go.ChangeAt Go.RowKit
set_option linter.unusedVariables false

abbrev ownT (v : Value) (l : List UInt8) : SP := own 5 1 v l.length (vbs l)
theorem infoT : (Tryz.prog.info? 5).map (fun i => (i.zero, i.size, i.bytes)) = some (some (.int .u8 0), 1, 1) := by kernel_rfl

/-- may an item follow? -/
def fitsN (tag last : UInt8) (size before : Nat) : Nat := if tag.toNat ≤ last.toNat then 7 else if 200 < size ∨ 16 ≤ before then 17 else 0
theorem fits_any (tag last : UInt8) (size before : Nat) (w : World) :
    Calls Tryz.prog 122 #[vb tag, vb last, .int .i64 size, .int .i64 before] w fun e w' => e = .returned (.int .i64 (fitsN tag last size before : Int)) ∧ w = w' := by
  by_cases h1 : tag.toNat ≤ last.toNat
  · have HF := hide (show fitsN tag last size before = 7 by unfold fitsN; rw [if_pos h1])
    go_enter Tryz.func122, Tryz.ntmps122
    go_wp2_with fail
    go_ret
    exact ⟨by rw [HF.out]; rfl, rfl⟩
  · have hd : decide (((tag.toNat : Nat) : Int) ≤ ((last.toNat : Nat) : Int)) = false := by simp; omega
    by_cases h2 : 200 < size
    · have HF := hide (show fitsN tag last size before = 17 by unfold fitsN; rw [if_neg h1, if_pos (.inl h2)])
      go_enter Tryz.func122, Tryz.ntmps122
      go_wp2_with fail
      go_ret
      exact ⟨by rw [HF.out]; rfl, rfl⟩
    · by_cases h3 : 16 ≤ before
      · have HF := hide (show fitsN tag last size before = 17 by unfold fitsN; rw [if_neg h1, if_pos (.inr h3)])
        go_enter Tryz.func122, Tryz.ntmps122
        go_wp2_with fail
        go_ret
        exact ⟨by rw [HF.out]; rfl, rfl⟩
      · have HF := hide (show fitsN tag last size before = 0 by unfold fitsN; rw [if_neg h1, if_neg (by omega)])
        go_enter Tryz.func122, Tryz.ntmps122
        go_wp2_with fail
        go_ret
        exact ⟨by rw [HF.out]; rfl, rfl⟩

set_option maxRecDepth 100000 in
theorem copied_any (v : Value) (l : List UInt8) (w : World) (h : IsBytes w v l) (hlen : l.length ≤ 140737488351232) :
    Calls Tryz.prog 123 #[v] w (Makes w fun v => ownT v l) := by
  have hu := Tryz.underlying22
  have H := hide h
  obtain ⟨a, c, rfl, _, _, _, _⟩ := h
  go_enter Tryz.func123, Tryz.ntmps123
  go_wp2_with (at_builtin; refine wpList_append_bytes (F := all w) rfl _ _ 22 rfl 5 hu infoT _ [] l rfl (own_nil _ _ (on_all w)) _ rfl H.out (by simp; omega) ?_; intro v2 w2 ho2 hs2)
  go_wp2_with fail
  go_ret
  exact ⟨_, rfl, ho2, hs2⟩

structure TItem where
  tag : UInt8
  value : List UInt8
/-- the items' cells, and their values' bytes -/
def itCells (L : List (Value × TItem)) : List Value := L.flatMap fun y => [vb y.2.tag, y.1]
def itStars : List (Value × TItem) → SP
  | [] => emp
  | y :: t => ownT y.1 y.2.value * itStars t
theorem itStars_snoc (L : List (Value × TItem)) (y : Value × TItem) : itStars (L ++ [y]) = itStars L * ownT y.1 y.2.value := by
  induction L with
  | nil => exact SP.mul_comm _ _
  | cons z t ih => show _ * itStars (t ++ [y]) = _; rw [ih, ← SP.mul_assoc]; rfl
theorem itStars_get {F : SP} {w : World} : ∀ (L : List (Value × TItem)) (i : Nat) (v : Value) (e : TItem), (itStars L * F).on w → L[i]? = some (v, e) → IsBytes w v e.value
  | [], i, v, e, _, h => by simp at h
  | y :: t, 0, v, e, h, hi => by
    simp only [List.getElem?_cons_zero, Option.some.injEq] at hi
    subst hi
    have h2 : ((ownT v e.value * itStars t) * F).on w := h
    rw [SP.mul_assoc] at h2
    exact own_bytes h2
  | y :: t, i + 1, v, e, h, hi => by
    have h2 : ((ownT y.1 y.2.value * itStars t) * F).on w := h
    rw [SP.mul_assoc] at h2
    exact itStars_get t i v e h2.right (by simpa using hi)
theorem itCells_snoc (L : List (Value × TItem)) (y : Value × TItem) : itCells (L ++ [y]) = itCells L ++ [vb y.2.tag, y.1] := by simp [itCells]
theorem itCells_get : ∀ (L : List (Value × TItem)) (i : Nat) (v : Value) (e : TItem), L[i]? = some (v, e) → (itCells L)[i * 2]? = some (vb e.tag) ∧ (itCells L)[i * 2 + 1]? = some v
  | [], i, v, e, h => by simp at h
  | y :: t, 0, v, e, hi => by
    simp only [List.getElem?_cons_zero, Option.some.injEq] at hi
    subst hi
    exact ⟨rfl, rfl⟩
  | y :: t, i + 1, v, e, hi => by
    have := itCells_get t i v e (by simpa using hi)
    rw [show (i + 1) * 2 = i * 2 + 2 by omega, show i * 2 + 2 + 1 = (i * 2 + 1) + 2 by omega]
    exact this
/-- items in memory, of an item's type ty -/
def Its (ty : TypeId) (v : Value) (L : List (Value × TItem)) : SP := own ty 2 v L.length (itCells L) * itStars L
theorem Its.nil {ty : TypeId} {F : SP} {w : World} (h : F.on w) : (Its ty (.slice Option.none 0 0) [] * F).on w := by
  show ((own ty 2 (.slice Option.none 0 0) 0 [] * emp) * F).on w
  rw [SP.mul_assoc]
  exact own_nil _ 2 (on_emp_mul.2 h)
theorem Its.push {ty : TypeId} {v2 x : Value} {L : List (Value × TItem)} {it : TItem} {F : SP} {w : World} (h : (own ty 2 v2 (L.length + 1) (itCells L ++ [vb it.tag, x]) * (itStars L * (ownT x it.value * F))).on w) :
    (Its ty v2 (L ++ [(x, it)]) * F).on w := by
  unfold Its
  rw [itCells_snoc, itStars_snoc, List.length_append, SP.mul_assoc, SP.mul_assoc]
  exact h

/-- the items of bytes: behind so many items, the last of which has the tag last -/
def parseF : Nat → List UInt8 → UInt8 → List TItem → List TItem × Nat
  | _, [], _, acc => (acc, 0)
  | _, [_], _, _ => ([], 18)
  | 0, _ :: _ :: _, _, _ => ([], 18)
  | f + 1, tag :: sz :: rest, last, acc => if fitsN tag last sz.toNat acc.length ≠ 0 then ([], fitsN tag last sz.toNat acc.length)
    else if rest.length < sz.toNat then ([], 18) else parseF f (rest.drop sz.toNat) tag (acc ++ [⟨tag, rest.take sz.toNat⟩])
end Go.Proofs.YtgmpmlneoiagdaaGreatDoor
