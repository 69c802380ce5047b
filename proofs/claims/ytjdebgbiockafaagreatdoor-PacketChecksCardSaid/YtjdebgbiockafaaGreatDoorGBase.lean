/- A part. -/
import Derived.WalkKit
import Derived.Below
import Derived.Laws.Rows
import Derived.Laws.BytesArg
import Derived.Carry
import Derived.Lib.SlBytesConst
import Derived.Laws.AppendOwnNone
import Derived.Test.YtjdebgbiockafaaGreatDoorRows
import Derived.Handy
import Derived.Orders
import Derived.Tactics
import Derived.Deep.QuietTactic
import Derived.ProofKit
import Derived.OpenShut
import Derived.ChangeOld
import Derived.SizedLaws
set_option linter.unusedVariables false
set_option linter.unusedSimpArgs false
set_option maxRecDepth 100000
set_option maxHeartbeats 8000000
namespace Go.Proofs.YtjdebgbiockafaaGreatDoor
open Go.RowKit
theorem hide {p : Prop} (h : p) : Hid p := h
abbrev Hp := Nat → Option Obj
def Hp.sub (h h' : Hp) : Prop := ∀ k o, h k = some o → h' k = some o
def Hp.apart (h h' : Hp) : Prop := ∀ k, h k = Option.none ∨ h' k = Option.none
def Hp.or (h h' : Hp) : Hp := fun k => (h k).or (h' k)
def hpOf (w : World) : Hp := fun k => w.heap[k]?
theorem Hp.sub_refl (h : Hp) : h.sub h := fun _ _ e => e
theorem Hp.sub.trans {a b c : Hp} (h : a.sub b) (k : b.sub c) : a.sub c := fun i o e => k i o (h i o e)
theorem Hp.apart.symm {a b : Hp} (h : a.apart b) : b.apart a := fun k => (h k).symm
theorem Hp.apart.sub_right {a b c : Hp} (h : a.apart b) (k : c.sub b) : a.apart c := by
 intro i
 rcases h i with h | h
 ·exact .inl h
 right
 cases hc : c i with
 | none => rfl
 | some o => rw [k i o hc] at h; cases h
theorem Hp.sub_or_left (a b : Hp) : a.sub (a.or b) := fun k o e => by simp [Hp.or, e]
theorem Hp.sub_or_right {a b : Hp} (h : a.apart b) : b.sub (a.or b) := fun k o e => by
 rcases h k with h | h
 ·simp [Hp.or, h, e]
 rw [h] at e; cases e
theorem Hp.or_sub {a b c : Hp} (h : a.sub c) (k : b.sub c) : (a.or b).sub c := fun i o e => by
 simp only [Hp.or, Option.or_eq_some_iff] at e
 rcases e with e | ⟨_, e⟩
 ·exact h i o e
 exact k i o e
theorem Hp.apart_or {a b c : Hp} (h : a.apart b) (k : a.apart c) : a.apart (b.or c) := fun i => by
 rcases h i with h | h
 ·exact .inl h
 rcases k i with k | k
 ·exact .inl k
 right; simp [Hp.or, h, k]
structure SP where
 on' : Hp → Prop
def SP.star (P Q : SP) : SP := ⟨fun h => ∃ a b : Hp, a.apart b ∧ a.sub h ∧ b.sub h ∧ P.on' a ∧ Q.on' b⟩
instance : Mul SP := ⟨SP.star⟩
theorem SP.ext {P Q : SP} (h : ∀ x, P.on' x ↔ Q.on' x) : P = Q := by
 cases P; cases Q; congr; funext x; exact propext (h x)
theorem SP.mul_comm (P Q : SP) : P * Q = Q * P :=
 SP.ext fun _ => ⟨fun ⟨a, b, h, h1, h2, p, q⟩ => ⟨b, a, h.symm, h2, h1, q, p⟩, fun ⟨a, b, h, h1, h2, p, q⟩ => ⟨b, a, h.symm, h2, h1, q, p⟩⟩
theorem SP.mul_assoc_le {P Q R : SP} {h : Hp} (H : ((P * Q) * R).on' h) : (P * (Q * R)).on' h := by
 obtain ⟨ab, c, h1, h2, h3, ⟨a, b, g1, g2, g3, p, q⟩, r⟩ := H
 refine ⟨a, b.or c, Hp.apart_or g1 (h1.symm.sub_right g2).symm, g2.trans h2, Hp.or_sub (g3.trans h2) h3, p, b, c, ?_, Hp.sub_or_left _ _, Hp.sub_or_right ?_, q, r⟩
 ·exact (h1.symm.sub_right g3).symm
 exact (h1.symm.sub_right g3).symm
theorem SP.mul_assoc (P Q R : SP) : (P * Q) * R = P * (Q * R) :=
 SP.ext fun h => ⟨SP.mul_assoc_le, fun H => by
  rw [SP.mul_comm P, SP.mul_comm Q] at H
  have := SP.mul_assoc_le H
  rw [SP.mul_comm R, SP.mul_comm Q] at this
  exact this⟩
theorem SP.mul_left_comm (P Q R : SP) : P * (Q * R) = Q * (P * R) := by
 rw [← SP.mul_assoc, SP.mul_comm P Q, SP.mul_assoc]
instance : Std.Associative (α := SP) (· * ·) := ⟨SP.mul_assoc⟩
instance : Std.Commutative (α := SP) (· * ·) := ⟨SP.mul_comm⟩
def SP.on (P : SP) (w : World) : Prop := ∃ h : Hp, h.sub (hpOf w) ∧ P.on' h
theorem SP.on_of_heap {P : SP} {w w' : World} (h : P.on w) (e : w'.heap = w.heap) : P.on w' := by
 obtain ⟨x, hx, p⟩ := h
 exact ⟨x, by intro k o ho; simp only [hpOf, e]; exact hx k o ho, p⟩
theorem SP.on.drew {P : SP} {w : World} (h : P.on w) : P.on w.drew := SP.on_of_heap h rfl
theorem SP.on_mul {P Q : SP} {w : World} : (P * Q).on w ↔ ∃ a b : Hp, a.apart b ∧ a.sub (hpOf w) ∧ b.sub (hpOf w) ∧ P.on' a ∧ Q.on' b := by
 constructor
 ·rintro ⟨h, hs, a, b, h1, h2, h3, p, q⟩
  exact ⟨a, b, h1, h2.trans hs, h3.trans hs, p, q⟩
 rintro ⟨a, b, h1, h2, h3, p, q⟩
 exact ⟨hpOf w, Hp.sub_refl _, a, b, h1, h2, h3, p, q⟩
theorem SP.on.left {P Q : SP} {w : World} (h : (P * Q).on w) : P.on w := by
 obtain ⟨a, b, _, h2, _, p, _⟩ := SP.on_mul.1 h
 exact ⟨a, h2, p⟩
theorem SP.on.right {P Q : SP} {w : World} (h : (P * Q).on w) : Q.on w := by
 obtain ⟨a, b, _, _, h3, _, q⟩ := SP.on_mul.1 h
 exact ⟨b, h3, q⟩
def SP.le (P Q : SP) : Prop := ∀ h, P.on' h → ∃ g : Hp, g.sub h ∧ Q.on' g
theorem SP.le.refl (P : SP) : P.le P := fun h p => ⟨h, Hp.sub_refl _, p⟩
theorem SP.le.trans {P Q R : SP} (h : P.le Q) (k : Q.le R) : P.le R := fun x p => by
 obtain ⟨y, hy, q⟩ := h x p
 obtain ⟨z, hz, r⟩ := k y q
 exact ⟨z, hz.trans hy, r⟩
theorem SP.le.on {P Q : SP} {w : World} (h : P.le Q) (p : P.on w) : Q.on w := by
 obtain ⟨x, hx, p⟩ := p
 obtain ⟨y, hy, q⟩ := h x p
 exact ⟨y, hy.trans hx, q⟩
theorem SP.le_right (P Q : SP) : (P * Q).le Q := fun _ ⟨_, b, _, _, h3, _, q⟩ => ⟨b, h3, q⟩
theorem SP.le.mul {P P' Q Q' : SP} (h : P.le P') (k : Q.le Q') : (P * Q).le (P' * Q') := by
 rintro x ⟨a, b, h1, h2, h3, p, q⟩
 obtain ⟨a', ha, p'⟩ := h a p
 obtain ⟨b', hb, q'⟩ := k b q
 exact ⟨x, Hp.sub_refl _, a', b', (h1.symm.sub_right ha).symm.sub_right hb, ha.trans h2, hb.trans h3, p', q'⟩
theorem SP.le_of_eq {P Q : SP} (h : P = Q) : P.le Q := h ▸ SP.le.refl P
def blk (b : Nat) (o : Obj) : SP := ⟨fun h => h b = some o⟩
def pure (p : Prop) : SP := ⟨fun _ => p⟩
def ex {α : Type} (f : α → SP) : SP := ⟨fun h => ∃ a, (f a).on' h⟩
def emp : SP := ⟨fun _ => True⟩
theorem on_mul_emp {P : SP} {w : World} : (P * emp).on w ↔ P.on w :=
 ⟨SP.on.left, fun ⟨h, hs, p⟩ => SP.on_mul.2 ⟨h, fun _ => Option.none, fun _ => .inr rfl, hs, fun _ _ h => (nomatch h), p, trivial⟩⟩
theorem on_emp_mul {P : SP} {w : World} : (emp * P).on w ↔ P.on w := by rw [SP.mul_comm]; exact on_mul_emp
theorem on_pure_mul {p : Prop} {P : SP} {w : World} : (pure p * P).on w ↔ p ∧ P.on w := by
 constructor
 ·intro h
  obtain ⟨_, _, hp⟩ := h.left
  exact ⟨hp, h.right⟩
 rintro ⟨hp, h, hs, q⟩
 exact SP.on_mul.2 ⟨fun _ => Option.none, h, fun _ => .inl rfl, fun _ _ h => (nomatch h), hs, hp, q⟩
theorem on_ex_mul {α : Type} {f : α → SP} {P : SP} {w : World} : (ex f * P).on w ↔ ∃ a, (f a * P).on w := by
 constructor
 ·intro h
  obtain ⟨a, b, h1, h2, h3, ⟨x, p⟩, q⟩ := SP.on_mul.1 h
  exact ⟨x, SP.on_mul.2 ⟨a, b, h1, h2, h3, p, q⟩⟩
 rintro ⟨x, h⟩
 obtain ⟨a, b, h1, h2, h3, p, q⟩ := SP.on_mul.1 h
 exact SP.on_mul.2 ⟨a, b, h1, h2, h3, ⟨x, p⟩, q⟩
theorem on_blk {b : Nat} {o : Obj} {w : World} (h : (blk b o).on w) : w.heap[b]? = some o := by
 obtain ⟨x, hs, p⟩ := h
 exact hs b o p
theorem on_blk_mul {b : Nat} {o : Obj} {P : SP} {w : World} (h : (blk b o * P).on w) : w.heap[b]? = some o := on_blk h.left
theorem SP.on.alloc {P : SP} {w : World} (h : P.on w) (o : Obj) : (blk w.heap.size o * P).on (w.alloc o) := by
 obtain ⟨x, hs, p⟩ := h
 have hsz : x w.heap.size = Option.none := by
  cases e : x w.heap.size with
  | none => rfl
  | some y => have := hs _ _ e; simp [hpOf] at this
 refine SP.on_mul.2 ⟨fun k => if k = w.heap.size then some o else Option.none, x, ?_, ?_, ?_, by simp [blk], p⟩
 ·intro k
  by_cases hk : k = w.heap.size
  ·right; rw [hk]; exact hsz
  left; simp [hk]
 ·intro k y hy
  by_cases hk : k = w.heap.size
  ·subst hk; simp at hy; subst hy; exact heap_alloc_new w _
  simp [hk] at hy
 intro k y hy
 have := hs k y hy
 have hlt : k < w.heap.size := (Array.getElem?_eq_some_iff.1 this).1
 exact (Below.heap_alloc w o k hlt).trans this
theorem SP.on.alloc' {P : SP} {w : World} (h : P.on w) (o : Obj) : P.on (w.alloc o) := (h.alloc o).right
theorem SP.on.turn {P : SP} {b : Nat} {o o' : Obj} {w w' : World} (h : (blk b o * P).on w) (hb : w'.heap[b]? = some o')
  (hk : ∀ k, k < w.heap.size → k ≠ b → w'.heap[k]? = w.heap[k]?) : (blk b o' * P).on w' := by
 obtain ⟨x, y, h1, h2, h3, p, q⟩ := SP.on_mul.1 h
 have hy : y b = Option.none := by
  rcases h1 b with e | e
  ·have p' : x b = some o := p
   rw [p'] at e; cases e
  exact e
 refine SP.on_mul.2 ⟨fun k => if k = b then some o' else Option.none, y, ?_, ?_, ?_, by simp [blk], q⟩
 ·intro k
  by_cases hk : k = b
  ·right; rw [hk]; exact hy
  left; simp [hk]
 ·intro k z hz
  by_cases hk : k = b
  ·subst hk; simp at hz; subst hz; exact hb
  simp [hk] at hz
 intro k z hz
 have hkb : k ≠ b := by intro e; subst e; rw [hy] at hz; cases hz
 have := h3 k z hz
 exact (hk k (Array.getElem?_eq_some_iff.1 this).1 hkb).trans this
theorem SP.on.setCell {P : SP} {b i : Nat} {c : Array Value} {t : TypeId} {w : World} (h : (blk b (.cells c t (0, 0)) * P).on w) (v : Value) :
  (blk b (.cells (c.setIfInBounds i v) t (0, 0)) * P).on (w.setCell ⟨b, i, .none⟩ v) :=
 h.turn (heap_setCell_same w b i c t v (on_blk_mul h)) (fun k _ hk => heap_setCell_other w _ k v hk)
theorem setRow_heap_same (w : World) (g : Nat) (cs cur : Array Value) (t : TypeId) (fr : Nat × Nat) (hg : w.heap[g]? = some (.cells cur t fr)) :
  (w.setRow g cs).heap[g]? = some (.cells cs t fr) := setRow_heap w g cur cs t fr hg
theorem SP.on.setRow {P : SP} {b : Nat} {c : Array Value} {t : TypeId} {w : World} (h : (blk b (.cells c t (0, 0)) * P).on w) (cs : Array Value) :
  (blk b (.cells cs t (0, 0)) * P).on (w.setRow b cs) :=
 h.turn (setRow_heap_same w b cs c t (0, 0) (on_blk_mul h)) (fun k _ hk => setRow_other w b k cs hk)
theorem SP.on.below {P : SP} {w w' : World} (h : P.on w) (hb : Below w.heap.size w w') : P.on w' := by
 obtain ⟨x, hs, p⟩ := h
 refine ⟨x, fun k o e => ?_, p⟩
 have := hs k o e
 exact (hb.block k (Array.getElem?_eq_some_iff.1 this).1).trans this
structure Str (w w' : World) : Prop where
 os : w'.os = w.os
 tape : w'.tape = w.tape
 output : w'.output = w.output
 size : w.heap.size ≤ w'.heap.size
theorem Str.refl (w : World) : Str w w := ⟨rfl, rfl, rfl, Nat.le_refl _⟩
theorem Str.trans {a b c : World} (h : Str a b) (k : Str b c) : Str a c := ⟨k.os.trans h.os, k.tape.trans h.tape, k.output.trans h.output, Nat.le_trans h.size k.size⟩
theorem Str.drew {a b : World} (h : Str a b) : Str a b.drew := ⟨h.os, h.tape, h.output, h.size⟩
theorem Str.alloc {a b : World} (h : Str a b) (o : Obj) : Str a (b.alloc o) := ⟨h.os, h.tape, h.output, by have := h.size; simp; omega⟩
theorem Str.setCell {a b : World} (h : Str a b) (p : Addr) (v : Value) : Str a (b.setCell p v) := ⟨h.os, h.tape, h.output, by have := h.size; simp; omega⟩
theorem Str.setRow {a b : World} (h : Str a b) (g : Nat) (cs : Array Value) : Str a (b.setRow g cs) := ⟨h.os, h.tape, h.output, by have := h.size; simp; omega⟩
theorem Str.below {a b : World} {B : Nat} (h : Below B a b) : Str a b := ⟨h.os, h.tape, h.output, h.size⟩
theorem below_setRow {B : Nat} {a w : World} (h : Below B a w) {g : Nat} (hg : B ≤ g) (cs : Array Value) : Below B a (w.setRow g cs) :=
 h.trans ⟨rfl, rfl, rfl, by simp, fun k hk => setRow_other w g k cs (by omega)⟩
def all (w : World) : SP := ⟨fun h => ∀ k, k < w.heap.size → h k = w.heap[k]?⟩
theorem on_all (w : World) : (all w).on w := ⟨hpOf w, Hp.sub_refl _, fun _ _ => rfl⟩
theorem all_below {w w' : World} (h : (all w).on w') (s : Str w w') : Below w.heap.size w w' :=
 ⟨s.os, s.tape, s.output, s.size, fun k hk => by
  obtain ⟨x, hs, p⟩ := h
  have e : w.heap[k]? = some w.heap[k] := by simp [hk]
  rw [e]
  exact hs k _ ((p k hk).trans e)⟩
theorem all_le {F : SP} {w : World} (h : F.on w) : (all w).le F := by
 obtain ⟨x, hs, p⟩ := h
 intro y hy
 refine ⟨x, fun k o ho => ?_, p⟩
 have hk := hs k o ho
 rw [hy k (Array.getElem?_eq_some_iff.1 hk).1]
 exact hk
theorem on_all_to {Q F : SP} {w w' : World} (h : (Q * all w).on w') (hF : F.on w) : (Q * F).on w' := (SP.le.mul (SP.le.refl Q) (all_le hF)).on h
def Makes (w : World) (Q : Value → SP) (e : Ending) (w' : World) : Prop := ∃ v, e = .returned v ∧ (Q v * all w).on w' ∧ Str w w'
theorem Makes.below {w w' : World} {Q : Value → SP} {v : Value} (h : (Q v * all w).on w') (s : Str w w') : Below w.heap.size w w' := all_below h.right s
theorem retE {P : Program} {fn : Func} {p : Tmp} {ty : TypeId} {a : Act} {W w0 : World} {B g : Nat} {v cur : Array Value} {t : TypeId} {d : TypeDesc} {E : Ending} (h : fn.results = #[.cell p ty]) (gR : W.heap[g]? = some (.cells cur t (0, 0))) (hu : P.underlying ty = some d) (hi : (P.info? ty).map (·.size) = some v.size)
  (hd : (match d with | .struct _ | .array _ _ => true | _ => false) = true) (he : .returned (.agg v) = E) (HB : Below B w0 W) (hBg : B ≤ g) (hp : a.tmps.getD p undef = .pointer (some ⟨g, 0, Option.none⟩) := by rfl) (hdf : a.defers = [] := by rfl) : bodyPost P fn (fun e w' => e = E ∧ Below B w0 w') .ret a (W.setRow g v) :=
 bodyPost_ret (v := .agg v) (results_cell_row h _ _ g _ v (0, 0) d hp (setRow_heap_same _ _ _ _ _ _ gR) hu hd hi) hdf ⟨he, HB.trans ⟨rfl, rfl, rfl, by simp [World.setRow], fun k hk => setRow_other W g k v (by omega)⟩⟩
theorem wL {P : Program} {ops : Array Oper} {rest : List Oper} {o : Oper} {a : Act} {w : World} {Q : Exit → Act → World → Prop} {ty : TypeId} {x : Operand} {g : Nat} {t : TypeId} {cs : Array Value} {fr : Nat × Nat} {d : TypeDesc} (hg : w.heap[g]? = some (.cells cs t fr)) (hu : P.underlying ty = some d) (hi : (P.info? ty).map (·.size) = some cs.size)
  (h : wpList P ops Q rest (a.put o.dst (.agg cs)) w) (hgd : o.guard = Option.none := by rfl) (ho : o.op = .load ty x := by rfl) (hx : a.eval x = .pointer (some ⟨g, 0, Option.none⟩) := by rfl) (hd : (match d with | .struct _ | .array _ _ => true | _ => false) = true := by rfl) : wpList P ops Q (o :: rest) a w :=
 wpList_load_row hgd ty x ho g hx t cs fr d hg hu hd hi h
theorem wS {P : Program} {ops : Array Oper} {rest : List Oper} {o : Oper} {a : Act} {w : World} {Q : Exit → Act → World → Prop} {ty : TypeId} {x y : Operand} {g : Nat} {cells : Array Value} {t : TypeId} {old : Array Value} (hg : w.heap[g]? = some (.cells old t (0, 0))) (hi : (P.info? ty).map (·.size) = some cells.size) (hold : old.size = cells.size) (h1 : cells.all (·.oneCell') = true)
  (h : wpList P ops Q rest (a.put o.dst undef) (w.setRow g cells)) (hgd : o.guard = Option.none := by rfl) (ho : o.op = .store ty x y := by rfl) (hx : a.eval x = .pointer (some ⟨g, 0, Option.none⟩) := by rfl) (hy : a.eval y = .agg cells := by rfl) : wpList P ops Q (o :: rest) a w :=
 wpList_store_row hgd ty x y ho g cells hx hy t old hg hi hold h1 h
theorem retR {P : Program} {fn : Func} {p : Tmp} {ty : TypeId} {a : Act} {W w0 : World} {B g : Nat} {v cur : Array Value} {t : TypeId} {d : TypeDesc} (h : fn.results = #[.cell p ty]) (gR : W.heap[g]? = some (.cells cur t (0, 0))) (hu : P.underlying ty = some d) (hi : (P.info? ty).map (·.size) = some v.size)
  (hd : (match d with | .struct _ | .array _ _ => true | _ => false) = true) (HB : Below B w0 W) (hBg : B ≤ g) (hp : a.tmps.getD p undef = .pointer (some ⟨g, 0, Option.none⟩) := by rfl) (hdf : a.defers = [] := by rfl) : bodyPost P fn (fun e w' => e = .returned (.agg v) ∧ Below B w0 w') .ret a (W.setRow g v) :=
 bodyPost_ret (v := .agg v) (results_cell_row h _ _ g _ v (0, 0) d hp (setRow_heap_same _ _ _ _ _ _ gR) hu hd hi) hdf ⟨rfl, HB.trans ⟨rfl, rfl, rfl, by simp [World.setRow], fun k hk => setRow_other W g k v (by omega)⟩⟩
theorem b3 {a b c : Prop} (x : a) (y : b) (z : c) : Hid a ∧ Hid b ∧ Hid c := ⟨x, y, z⟩
theorem nx {F : SP} {w0 w X : World} (h : F.on w) (s : Str w0 w) (b : Below w.heap.size w X) : Hid (F.on X) ∧ Hid (Str w0 X) := ⟨h.below b, s.trans (Str.below b)⟩
theorem newV {F : SP} {w0 w : World} (h : F.on w) (s : Str w0 w) (z v : Array Value) (t : TypeId) : (w.alloc (.cells z t)).heap[w.heap.size]? = some (.cells z t (0, 0)) ∧ ((w.alloc (.cells z t)).setRow w.heap.size v).heap[w.heap.size]? = some (.cells v t (0, 0)) ∧
  Hid ((blk w.heap.size (.cells v t (0, 0)) * F).on ((w.alloc (.cells z t)).setRow w.heap.size v)) ∧ Hid (Str w0 ((w.alloc (.cells z t)).setRow w.heap.size v)) :=
 ⟨on_blk_mul (h.alloc (.cells z t)), on_blk_mul ((h.alloc (.cells z t)).setRow v), (h.alloc (.cells z t)).setRow v, (s.alloc _).setRow _ _⟩
abbrev vb (x : UInt8) : Value := .int .u8 ((x.toNat : Nat) : Int)
def Lay (w : World) (a : Option Addr) (l : List Value) : Prop := ∀ i v, l[i]? = some v → ∃ b off, a = some ⟨b, off, .none⟩ ∧ w.cell? ⟨b, off + i, .none⟩ = some v
theorem Lay.nil (w : World) (a : Option Addr) : Lay w a [] := fun i v h => by simp at h
theorem Lay.below {w w' : World} {a : Option Addr} {l : List Value} (h : Lay w a l) (hb : Below w.heap.size w w') : Lay w' a l := fun i v e => by
 obtain ⟨b, off, ha, hc⟩ := h i v e
 exact ⟨b, off, ha, (hb.cell (p := ⟨b, off + i, .none⟩) (World.block_lt_of_cell? w _ hc)).trans hc⟩
theorem Lay.drop {w : World} {b off : Nat} {l : List Value} (h : Lay w (some ⟨b, off, .none⟩) l) (k : Nat) : Lay w (some ⟨b, off + k, .none⟩) (l.drop k) := fun i v e => by
 rw [List.getElem?_drop] at e
 obtain ⟨b', off', ha, hc⟩ := h (k + i) v e
 cases ha
 exact ⟨b, off + k, rfl, by rw [Nat.add_assoc]; exact hc⟩
theorem Lay.take {w : World} {a : Option Addr} {l : List Value} (h : Lay w a l) (k : Nat) : Lay w a (l.take k) := fun i v e => by
 rw [List.getElem?_take] at e
 split at e
 ·exact h i v e
 cases e
theorem Lay.isAddr {w : World} {a : Option Addr} {l : List Value} (h : Lay w a l) (k : Nat) (hk : k < l.length) : ∃ b off, a = some ⟨b, off, .none⟩ := by
 obtain ⟨b, off, e, _⟩ := h k l[k] (by simp [hk])
 exact ⟨b, off, e⟩
theorem Lay.cell {w : World} {b off : Nat} {l : List Value} (h : Lay w (some ⟨b, off, .none⟩) l) (k : Nat) {v : Value} (hk : l[k]? = some v) : w.cell? ⟨b, off + k, .none⟩ = some v := by
 obtain ⟨b', off', e, hc⟩ := h k v hk
 cases e
 exact hc
abbrev vbs (l : List UInt8) : List Value := l.map vb
theorem vbs_get (l : List UInt8) (k : Nat) (h : k < l.length) : (vbs l)[k]? = some (vb l[k]) := by simp [vbs, h]
def IsBytes (w : World) (v : Value) (l : List UInt8) : Prop := ∃ a c, v = .slice a l.length c ∧ l.length ≤ c ∧ c ≤ maxLen ∧ Lay w a (vbs l) ∧ (a = Option.none → c = 0)
theorem IsBytes.below {w w' : World} {v : Value} {l : List UInt8} (h : IsBytes w v l) (hb : Below w.heap.size w w') : IsBytes w' v l := by
 obtain ⟨a, c, h1, h2, h3, h4, h5⟩ := h
 exact ⟨a, c, h1, h2, h3, h4.below hb, h5⟩
theorem IsBytes.nil (w : World) : IsBytes w (.slice Option.none 0 0) [] := ⟨_, _, rfl, Nat.le_refl _, Nat.zero_le _, Lay.nil _ _, fun _ => rfl⟩
def IsRows (w : World) (v : Value) (ls : List (List UInt8)) : Prop := ∃ (a : Option Addr) (c : Nat) (vs : List Value), v = .slice a ls.length c ∧ ls.length ≤ c ∧ c ≤ maxLen ∧ Lay w a vs ∧ vs.length = ls.length ∧
 ∀ (i : Nat) (v : Value) (l : List UInt8), vs[i]? = some v → ls[i]? = some l → IsBytes w v l
theorem IsRows.below {w w' : World} {v : Value} {ls : List (List UInt8)} (h : IsRows w v ls) (hb : Below w.heap.size w w') : IsRows w' v ls := by
 obtain ⟨a, c, vs, h1, h2, h3, h4, h5, h6⟩ := h
 exact ⟨a, c, vs, h1, h2, h3, h4.below hb, h5, fun i v l e e' => (h6 i v l e e').below hb⟩
theorem xor_ones (n s : Nat) (h : s < 2 ^ n) : (2 ^ n - 1) ^^^ s = 2 ^ n - 1 - s := by
 rw [show 2 ^ n - 1 - s = 2 ^ n - (s + 1) by omega]
 apply Nat.eq_of_testBit_eq
 intro i
 rw [Nat.testBit_xor, Nat.testBit_two_pow_sub_one, Nat.testBit_two_pow_sub_succ h]
 by_cases hi : i < n
 ·simp [hi]
 have : s.testBit i = false := Nat.testBit_lt_two_pow (Nat.lt_of_lt_of_le h (Nat.pow_le_pow_right (by decide) (by omega)))
 simp [hi, this]
theorem not_u64 (s : Nat) (h : s < 18446744073709551616) : bits .xor .u64 IntKind.u64.max (s : Int) = ((18446744073709551615 - s : Nat) : Int) := by
 rw [show IntKind.u64.max = ((18446744073709551615 : Nat) : Int) by decide, u64_xor_nat _ _ (by omega) h]
 rw [show (18446744073709551615 : Nat) = 2 ^ 64 - 1 from rfl, xor_ones 64 s (by omega)]
theorem Lay.new (w : World) (l : List Value) (t : TypeId) : Lay (w.alloc (.cells l.toArray t)) (some ⟨w.heap.size, 0, .none⟩) l := by
 intro i v hv
 exact ⟨_, _, rfl, by rw [Nat.zero_add, World.cell?_alloc_new]; simpa using hv⟩
theorem IsBytes.new (w : World) (l : List UInt8) (h : l.length ≤ maxLen) (t : TypeId) : IsBytes (w.alloc (.cells (vbs l).toArray t)) (.slice (some ⟨w.heap.size, 0, .none⟩) l.length l.length) l :=
 ⟨_, _, rfl, Nat.le_refl _, h, Lay.new w _ t, fun h => (nomatch h)⟩
theorem IsRows.new (w : World) (vs : List Value) (ls : List (List UInt8)) (hl : vs.length = ls.length) (h : ls.length ≤ maxLen) (hin : ∀ (i : Nat) (v : Value) (l : List UInt8), vs[i]? = some v → ls[i]? = some l → IsBytes w v l) (t : TypeId) :
  IsRows (w.alloc (.cells vs.toArray t)) (.slice (some ⟨w.heap.size, 0, .none⟩) ls.length ls.length) ls :=
 ⟨_, _, vs, rfl, Nat.le_refl _, h, Lay.new w vs t, hl, fun i v l e e' => (hin i v l e e').below ((Below.refl _ _).alloc (Nat.le_refl _) _)⟩
theorem IsRows.new2 {w : World} {v1 v2 : Value} {l1 l2 : List UInt8} (h1 : IsBytes w v1 l1) (h2 : IsBytes w v2 l2) (t : TypeId) : IsRows (w.alloc (.cells #[v1, v2] t)) (.slice (some ⟨w.heap.size, 0, .none⟩) 2 2) [l1, l2] :=
 IsRows.new w [v1, v2] [l1, l2] rfl (by simp [maxLen]) (fun i v l e e' => by
  match i, e, e' with
  | 0, e, e' => simp at e e'; subst e; subst e'; exact h1
  | 1, e, e' => simp at e e'; subst e; subst e'; exact h2
  | i + 2, e, _ => simp at e) t
theorem IsRows.one {w : World} {v : Value} {l : List UInt8} (h : IsBytes w v l) (t : TypeId) : IsRows (w.alloc (.cells #[v] t)) (.slice (some ⟨w.heap.size, 0, .none⟩) 1 1) [l] :=
 IsRows.new w [v] [l] rfl (by simp [maxLen]) (fun i v l e e' => by
  match i, e, e' with
  | 0, e, e' => simp at e e'; subst e; subst e'; exact h
  | i + 1, e, _ => simp at e) t
variable {P : Program}
def own (e : TypeId) (size : Nat) (v : Value) (n : Nat) (xs : List Value) : SP := ⟨fun h => xs.length = n * size ∧ ((v = .slice Option.none 0 0 ∧ n = 0) ∨
 ∃ g cap cur, v = .slice (some ⟨g, 0, .none⟩) n cap ∧ n ≤ cap ∧ cap ≤ maxLen ∧ cur.size = cap * size ∧ cur.toList.take (n * size) = xs ∧ h g = some (.cells cur e (0, 0)))⟩
theorem own_nil {F : SP} {w : World} (e : TypeId) (size : Nat) (h : F.on w) : (own e size (.slice Option.none 0 0) 0 [] * F).on w := by
 obtain ⟨x, hs, q⟩ := h
 exact SP.on_mul.2 ⟨fun _ => Option.none, x, fun _ => .inl rfl, fun _ _ h => (nomatch h), hs, ⟨by simp, .inl ⟨rfl, rfl⟩⟩, q⟩
theorem own_of_blk {F : SP} {w : World} {e : TypeId} {size g n cap : Nat} {cur : Array Value} {xs : List Value} (h : (blk g (.cells cur e (0, 0)) * F).on w)
  (h1 : xs.length = n * size) (h2 : n ≤ cap) (h3 : cap ≤ maxLen) (h4 : cur.size = cap * size) (h5 : cur.toList.take (n * size) = xs) :
  (own e size (.slice (some ⟨g, 0, .none⟩) n cap) n xs * F).on w := by
 obtain ⟨a, b, k1, k2, k3, p, q⟩ := SP.on_mul.1 h
 exact SP.on_mul.2 ⟨a, b, k1, k2, k3, ⟨h1, .inr ⟨g, cap, cur, rfl, h2, h3, h4, h5, p⟩⟩, q⟩
theorem own_new {F : SP} {w : World} (e : TypeId) (size n : Nat) (xs : List Value) (h : F.on w) (h1 : xs.length = n * size) (h3 : n ≤ maxLen) :
  (own e size (.slice (some ⟨w.heap.size, 0, .none⟩) n n) n xs * F).on (w.alloc (.cells xs.toArray e)) :=
 own_of_blk (h.alloc _) h1 (Nat.le_refl _) h3 (by simp [h1]) (by rw [← h1]; simp)
theorem own_cases {F : SP} {w : World} {e : TypeId} {size n : Nat} {v : Value} {xs : List Value} (h : (own e size v n xs * F).on w) :
  xs.length = n * size ∧ ((v = .slice Option.none 0 0 ∧ n = 0) ∨ ∃ g cap cur, v = .slice (some ⟨g, 0, .none⟩) n cap ∧ n ≤ cap ∧ cap ≤ maxLen ∧ cur.size = cap * size ∧ cur.toList.take (n * size) = xs ∧ (blk g (.cells cur e (0, 0)) * F).on w) := by
 obtain ⟨a, b, h1, h2, h3, p, q⟩ := SP.on_mul.1 h
 refine ⟨p.1, ?_⟩
 rcases p.2 with p | ⟨g, cap, cur, e1, e2, e3, e4, e5, e6⟩
 ·exact .inl p
 exact .inr ⟨g, cap, cur, e1, e2, e3, e4, e5, SP.on_mul.2 ⟨a, b, h1, h2, h3, e6, q⟩⟩
theorem own_value {F : SP} {w : World} {e : TypeId} {size n : Nat} {v : Value} {xs : List Value} (h : (own e size v n xs * F).on w) : ∃ a c, v = .slice a n c ∧ n ≤ c ∧ c ≤ maxLen ∧ Lay w a xs ∧ (a = Option.none → c = 0) := by
 obtain ⟨hx, h⟩ := own_cases h
 rcases h with ⟨rfl, rfl⟩ | ⟨g, cap, cur, rfl, e2, e3, e4, e5, e6⟩
 ·refine ⟨_, _, rfl, Nat.le_refl _, Nat.zero_le _, ?_, fun _ => rfl⟩
  simp at hx; subst hx; exact Lay.nil _ _
 refine ⟨_, _, rfl, e2, e3, ?_, fun h => (nomatch h)⟩
 intro i u hu
 refine ⟨_, _, rfl, ?_⟩
 rw [Nat.zero_add, cell_of_row _ _ _ _ _ _ (on_blk_mul e6)]
 rw [← e5, List.getElem?_take] at hu
 split at hu
 ·simpa using hu
 cases hu
theorem own_bytes {F : SP} {w : World} {e : TypeId} {n : Nat} {v : Value} {l : List UInt8} (h : (own e 1 v n (vbs l) * F).on w) : IsBytes w v l := by
 have hn : n = l.length := by have := (own_cases h).1; simp at this; omega
 subst hn
 obtain ⟨a, c, h1, h2, h3, h4, h5⟩ := own_value h
 exact ⟨a, c, h1, h2, h3, h4, h5⟩
theorem run_append_sp {F : SP} {w : World} (t ty e : TypeId) (i : TypeInfo) (z : Value) (size bytes : Nat) (ht : P.underlying t = some (.slice e)) (hi : P.info? e = some i) (hz : i.zero = some z)
  (hsize : i.size = size) (hby : i.bytes = bytes) (hzs : z.cells.size = size) (hsz : 0 < size)
  (v : Value) (n : Nat) (xs : List Value) (hown : (own e size v n xs * F).on w)
  (a : Option Addr) (m c : Nat) (news : List Value) (hac : a = Option.none → c = 0) (hl : news.length = m * size) (hnews : Lay w a news) (h1 : ∀ u ∈ news, u.oneCell' = true)
  (h63 : n + m ≤ maxLen) (hbytes : (n + m) * bytes ≤ 140737488355328) :
  ∃ v' w', (Builtin.append_ #[t, t] ty #[v, .slice a m c]).run P w = .ok v' w' ∧ (own e size v' (n + m) (xs ++ news) * F).on w' ∧ Str w w' := by
 obtain ⟨hx, hv⟩ := own_cases hown
 have hrow : w.ownsRow 0 e size v n xs := by
  refine ⟨hx, ?_⟩
  rcases hv with hv | ⟨g, cap, cur, e1, e2, e3, e4, e5, e6⟩
  ·exact .inl hv
  exact .inr ⟨g, cap, cur, e1, Nat.zero_le _, on_blk_mul e6, e2, e3, e4, e5⟩
 have hlenx : (xs ++ news).length = (n + m) * size := by rw [List.length_append, hx, hl, Nat.add_mul]
 cases a with
 | none =>
  have hm : m = 0 := by
   rcases Nat.eq_zero_or_pos m with h | h
   ·exact h
   have hp : 0 < news.length := by rw [hl]; exact Nat.mul_pos h hsz
   obtain ⟨b, off, e, _⟩ := hnews 0 news[0] (List.getElem?_eq_getElem hp)
   cases e
  subst hm
  obtain rfl : c = 0 := hac rfl
  have hn : news = [] := by cases news with | nil => rfl | cons _ _ => simp at hl
  subst hn
  refine ⟨v, w, run_append_owned_none (P := P) (w := w) 0 t ty e i size ht hi v n xs hrow, ?_, Str.refl _⟩
  simpa using hown
 | some ad =>
  have hnews' : ∀ j u, news[j]? = some u → w.cell? (ad.add j) = some u := by
   intro j u hu
   obtain ⟨b, off, e1, e2⟩ := hnews j u hu
   cases e1
   have : (⟨b, off, .none⟩ : Addr).add j = ⟨b, off + j, .none⟩ := by unfold Addr.add; split <;> simp_all
   rw [this]; exact e2
  rcases hv with ⟨rfl, rfl⟩ | ⟨g, cap, cur, rfl, e2, e3, e4, e5, e6⟩
  ·obtain ⟨v', w', r1, r2, r3, _⟩ := run_append_own (P := P) w w.heap.size t ty e i z size bytes ht hi hz hsize hby hzs hsz _ 0 xs ⟨hx, .inl ⟨rfl, rfl⟩⟩ ad m c news hl hnews' h1 h63 hbytes (Nat.le_refl _)
   refine ⟨v', w', r1, ?_, ⟨r3.os, r3.tape, r3.output, r3.size⟩⟩
   obtain ⟨y, hy, q⟩ := hown.right
   have hy' : y.sub (hpOf w') := fun k o ho => by
    have hk := hy k o ho
    exact (r3.block k (Array.getElem?_eq_some_iff.1 hk).1 (by simp [Value.ownBlock])).trans hk
   rcases r2.2 with ⟨rfl, hn⟩ | ⟨g, cap, cur, rfl, hb, hg, c1, c2, c3, c4⟩
   ·exact SP.on_mul.2 ⟨fun _ => Option.none, y, fun _ => .inl rfl, fun _ _ h => (nomatch h), hy', ⟨r2.1, .inl ⟨rfl, hn⟩⟩, q⟩
   refine SP.on_mul.2 ⟨fun k => if k = g then some (.cells cur e (0, 0)) else Option.none, y, ?_, ?_, hy', ⟨r2.1, .inr ⟨g, cap, cur, rfl, c1, c2, c3, c4, by simp⟩⟩, q⟩
   ·intro k
    by_cases hk : k = g
    ·right
     cases hyk : y k with
     | none => rfl
     | some o => have := (Array.getElem?_eq_some_iff.1 (hy k o hyk)).1; omega
    left; simp [hk]
   intro k o ho
   by_cases hk : k = g
   ·subst hk; simp at ho; subst ho; exact hg
   simp [hk] at ho
  subst hsize
  subst hby
  by_cases hroom : n + m ≤ cap
  ·have hfit : n * i.size + news.length ≤ cur.size := by rw [hl, e4, ← Nat.add_mul]; exact Nat.mul_le_mul_right _ hroom
   have hr := run_append_room (P := P) w t ty e i ht hi g n cap cur (on_blk_mul e6) ad m c news hl hnews' h1 hroom hfit
   refine ⟨_, _, hr, own_of_blk (e6.setRow _) hlenx hroom e3 ?_ ?_, (Str.refl _).setRow _ _⟩
   ·simp only [List.size_toArray, List.length_append, List.length_take, List.length_drop, Array.length_toList]
    omega
   rw [e5, ← hlenx]
   exact List.take_left
  have hsmall : n + m ≤ 9223372036854775807 := by simp only [maxLen] at h63; omega
  have holds : ∀ j u, xs[j]? = some u → w.cell? ((⟨g, 0, .none⟩ : Addr).add j) = some u := hrow.cells (g := g) rfl
  have hr := run_append_grow (P := P) w t ty e i z ht hi hz ⟨g, 0, .none⟩ n cap xs hx holds ad m c news hl hnews' (by omega) (by omega) (growslice_fits (by omega) hbytes)
  have hge := grownCap_ge w (n + m) cap e
  have hle := grownCap_le_maxLen w (n + m) cap e h63
  refine ⟨_, _, hr, own_of_blk (SP.on.alloc (w := w.drew) e6.right.drew _) hlenx hge hle ?_ ?_, ((Str.refl _).drew).alloc _⟩
  ·simp only [Array.size_append, List.size_toArray, size_zeroCells, hzs]
   rw [show xs.length + news.length = (n + m) * i.size by simpa using hlenx, ← Nat.add_mul]
   congr 1
   omega
  simp only [Array.toList_append]
  rw [← hlenx]
  exact List.take_left
theorem wpList_append_sp {F : SP} {w : World} {ops : Array Oper} {rest : List Oper} {o : Oper} {a : Act} {Q : Exit → Act → World → Prop} (hgd : o.guard = Option.none) (s x : Operand) (t : TypeId)
  (ho : o.op = .call { callee := .builtin .append, args := #[s, x], argTypes := #[t, t] })
  (e : TypeId) (i : TypeInfo) (z : Value) (size bytes : Nat) (ht : P.underlying t = some (.slice e)) (hi : P.info? e = some i) (hz : i.zero = some z)
  (hsize : i.size = size) (hby : i.bytes = bytes) (hzs : z.cells.size = size) (hsz : 0 < size)
  (v : Value) (n : Nat) (xs : List Value) (hs : a.eval s = v) (hown : (own e size v n xs * F).on w)
  (ad : Option Addr) (m c : Nat) (news : List Value) (hx : a.eval x = .slice ad m c) (hac : ad = Option.none → c = 0) (hl : news.length = m * size) (hnews : Lay w ad news) (h1 : ∀ u ∈ news, u.oneCell' = true)
  (h63 : n + m ≤ maxLen) (hbytes : (n + m) * bytes ≤ 140737488355328)
  (h : ∀ v' w', (own e size v' (n + m) (xs ++ news) * F).on w' → Str w w' → wpList P ops Q rest (a.put o.dst v') w') : wpList P ops Q (o :: rest) a w :=
 wpList_plain hgd fun _ hK => by
  obtain ⟨v', w', hr, h2, h3⟩ := run_append_sp (P := P) t o.type e i z size bytes ht hi hz hsize hby hzs hsz v n xs hown ad m c news hac hl hnews h1 h63 hbytes
  unfold Oper.wp execOp
  simp only [ho, resolve, invoke, builtin, Sem.run_bind, Sem.run_pure, Result.andThen_ok, List.map_toArray, List.map_cons, List.map_nil, hs, hx, hr]
  exact hK _ _ (h v' w' h2 h3)
theorem vbs_one (l : List UInt8) : ∀ u ∈ vbs l, u.oneCell' = true := by
 intro u hu
 simp at hu
 obtain ⟨x, _, rfl⟩ := hu
 rfl
theorem wpList_append_bytes {F : SP} {w : World} {ops : Array Oper} {rest : List Oper} {o : Oper} {a : Act} {Q : Exit → Act → World → Prop} (hgd : o.guard = Option.none) (s x : Operand) (t : TypeId)
  (ho : o.op = .call { callee := .builtin .append, args := #[s, x], argTypes := #[t, t] })
  (e : TypeId) (ht : P.underlying t = some (.slice e)) (hi : (P.info? e).map (fun i => (i.zero, i.size, i.bytes)) = some (some (.int .u8 0), 1, 1))
  (v : Value) (l m : List UInt8) (hs : a.eval s = v) (hown : (own e 1 v l.length (vbs l) * F).on w)
  (vx : Value) (hx : a.eval x = vx) (hm : IsBytes w vx m) (hb : l.length + m.length ≤ 140737488355328)
  (h : ∀ v' w', (own e 1 v' (l ++ m).length (vbs (l ++ m)) * F).on w' → Str w w' → wpList P ops Q rest (a.put o.dst v') w') : wpList P ops Q (o :: rest) a w := by
 obtain ⟨ad, c, rfl, _, _, hl, hc⟩ := hm
 cases hq : P.info? e with
 | none => simp [hq] at hi
 | some i =>
  simp [hq] at hi
  refine wpList_append_sp hgd s x t ho e i (.int .u8 0) 1 1 ht hq hi.1 hi.2.1 hi.2.2 rfl (by decide) v l.length (vbs l) hs hown ad m.length c (vbs m) hx hc (by simp) hl (vbs_one m) (by unfold maxLen; omega) (by omega) ?_
  intro v' w' h2 h3
  refine h v' w' ?_ h3
  have e1 : vbs (l ++ m) = vbs l ++ vbs m := by simp
  rw [e1, List.length_append]
  exact h2
theorem own_store {F : SP} {w : World} {e : TypeId} {g n cap j : Nat} {xs : List Value} (h : (own e 1 (.slice (some ⟨g, 0, .none⟩) n cap) n xs * F).on w) (hj : j < n) (u : Value) :
  (own e 1 (.slice (some ⟨g, 0, .none⟩) n cap) n (xs.set j u) * F).on (w.setCell ⟨g, j, .none⟩ u) := by
 obtain ⟨hx, hv⟩ := own_cases h
 rcases hv with ⟨hv, _⟩ | ⟨g', cap', cur, hv, e2, e3, e4, e5, e6⟩
 ·cases hv
 cases hv
 refine own_of_blk (e6.setCell u) (by simpa using hx) e2 e3 (by simpa using e4) ?_
 rw [Array.toList_setIfInBounds, ← e5, List.take_set]
theorem own_free {F : SP} {w : World} {e : TypeId} {g n cap : Nat} {xs : List Value} (h : (own e 1 (.slice (some ⟨g, 0, .none⟩) n cap) n xs * F).on w) (j : Nat) : w.frozen? ⟨g, j, .none⟩ = false := by
 obtain ⟨hx, hv⟩ := own_cases h
 rcases hv with ⟨hv, _⟩ | ⟨g', cap', cur, hv, e2, e3, e4, e5, e6⟩
 ·cases hv
 cases hv
 exact frozen_of_row _ _ _ _ _ (on_blk_mul e6)
theorem own_cell {F : SP} {w : World} {e : TypeId} {g n cap : Nat} {xs : List Value} (h : (own e 1 (.slice (some ⟨g, 0, .none⟩) n cap) n xs * F).on w) (j : Nat) (v : Value) (hj : xs[j]? = some v) : w.cell? ⟨g, j, .none⟩ = some v := by
 obtain ⟨a, c, hv, _, _, hl, _⟩ := own_value h
 cases hv
 have := Lay.cell hl j hj
 rwa [Nat.zero_add] at this
theorem own_block {F : SP} {w : World} {e : TypeId} {size n : Nat} {v : Value} {xs : List Value} (h : (own e size v n xs * F).on w) (hn : 0 < n) : ∃ g cap, v = .slice (some ⟨g, 0, .none⟩) n cap ∧ n ≤ cap ∧ cap ≤ maxLen := by
 obtain ⟨hx, hv⟩ := own_cases h
 rcases hv with ⟨_, rfl⟩ | ⟨g', cap', cur, hv, e2, e3, _⟩
 ·omega
 exact ⟨g', cap', hv, e2, e3⟩
theorem vbs_set (l : List UInt8) (j : Nat) (x : UInt8) : (vbs l).set j (vb x) = vbs (l.set j x) := by simp [vbs, List.map_set]
theorem info_some {P : Program} {t : TypeId} {z : Option Value} {n b : Nat} (h : (P.info? t).map (fun i => (i.zero, i.size, i.bytes)) = some (z, n, b)) : ∃ i, P.info? t = some i ∧ i.zero = z ∧ i.size = n ∧ i.bytes = b := by
 cases hq : P.info? t with
 | none => simp [hq] at h
 | some i => simp [hq] at h; exact ⟨i, rfl, h.1, h.2.1, h.2.2⟩
theorem on_all_to2 {Q R F : SP} {w w' : World} (h : (Q * (R * all w)).on w') (hF : F.on w) : (Q * (R * F)).on w' := by
 rw [← SP.mul_assoc] at h ⊢
 exact on_all_to h hF
end Go.Proofs.YtjdebgbiockafaaGreatDoor
namespace Go.Proofs.YtjdebgbiockafaaGreatDoor
open Go.ChangeShapes Go.WideShapes Go.ChangeAt Go.RowKit
abbrev ownT (v : Value) (l : List UInt8) : SP := own 5 1 v l.length (vbs l)
theorem infoT : (Tryz.prog.info? 5).map (fun i => (i.zero, i.size, i.bytes)) = some (some (.int .u8 0), 1, 1) := by kernel_rfl
def fitsN (tag last : UInt8) (size before : Nat) : Nat := if tag.toNat ≤ last.toNat then 7 else if 200 < size ∨ 16 ≤ before then 17 else 0
theorem fits_any (tag last : UInt8) (size before : Nat) (w : World) :
  Calls Tryz.prog 59 #[vb tag, vb last, .int .i64 size, .int .i64 before] w fun e w' => e = .returned (.int .i64 (fitsN tag last size before : Int)) ∧ w = w' := by
 by_cases h1 : tag.toNat ≤ last.toNat
 ·have HF := hide (show fitsN tag last size before = 7 by unfold fitsN; rw [if_pos h1])
  go_enter Tryz.func59, Tryz.ntmps59
  go_wp2
  go_ret
  exact ⟨by rw [HF.out]; rfl, rfl⟩
 have hd : decide (((tag.toNat : Nat) : Int) ≤ ((last.toNat : Nat) : Int)) = false := by simp; omega
 by_cases h2 : 200 < size
 ·have HF := hide (show fitsN tag last size before = 17 by unfold fitsN; rw [if_neg h1, if_pos (.inl h2)])
  go_enter Tryz.func59, Tryz.ntmps59
  go_wp2
  go_ret
  exact ⟨by rw [HF.out]; rfl, rfl⟩
 by_cases h3 : 16 ≤ before
 ·have HF := hide (show fitsN tag last size before = 17 by unfold fitsN; rw [if_neg h1, if_pos (.inr h3)])
  go_enter Tryz.func59, Tryz.ntmps59
  go_wp2
  go_ret
  exact ⟨by rw [HF.out]; rfl, rfl⟩
 have HF := hide (show fitsN tag last size before = 0 by unfold fitsN; rw [if_neg h1, if_neg (by omega)])
 go_enter Tryz.func59, Tryz.ntmps59
 go_wp2
 go_ret
 exact ⟨by rw [HF.out]; rfl, rfl⟩
theorem copied_any (v : Value) (l : List UInt8) (w : World) (h : IsBytes w v l) (hlen : l.length ≤ 140737488351232) :
  Calls Tryz.prog 60 #[v] w (Makes w fun v => ownT v l) := by
 have hu := Tryz.underlying35
 have H := hide h
 obtain ⟨a, c, rfl, _, _, _, _⟩ := h
 go_enter Tryz.func60, Tryz.ntmps60
 go_wp2_with (at_builtin; refine wpList_append_bytes (F := all w) rfl _ _ 35 rfl 5 hu infoT _ [] l rfl (own_nil _ _ (on_all w)) _ rfl H.out (by simp; omega) ?_; intro v2 w2 ho2 hs2)
 go_wp2
 go_ret
 exact ⟨_, rfl, ho2, hs2⟩
structure TItem where
 tag : UInt8
 value : List UInt8
def itCells (L : List (Value × TItem)) : List Value := L.flatMap fun y => [vb y.2.tag, y.1]
def itStars : List (Value × TItem) → SP
 | [] => emp
 | y :: t => ownT y.1 y.2.value * itStars t
theorem itStars_snoc (L : List (Value × TItem)) (y : Value × TItem) : itStars (L ++ [y]) = itStars L * ownT y.1 y.2.value := by
 induction L with
 | nil => exact SP.mul_comm _ _
 | cons z t ih => show _ * itStars (t ++ [y]) = _; rw [ih, ← SP.mul_assoc]; rfl
theorem itStars_get {F : SP} {w : World} : ∀ (L : List (Value × TItem)) (i : Nat) (v : Value) (e : TItem), (itStars L * F).on w → L[i]? = some (v, e) → IsBytes w v e.value
 | [], i, v, e, _, h => by simp at h
 | y :: t, 0, v, e, h, hi => by
  simp only [List.getElem?_cons_zero, Option.some.injEq] at hi
  subst hi
  have h2 : ((ownT v e.value * itStars t) * F).on w := h
  rw [SP.mul_assoc] at h2
  exact own_bytes h2
 | y :: t, i + 1, v, e, h, hi => by
  have h2 : ((ownT y.1 y.2.value * itStars t) * F).on w := h
  rw [SP.mul_assoc] at h2
  exact itStars_get t i v e h2.right (by simpa using hi)
theorem itCells_snoc (L : List (Value × TItem)) (y : Value × TItem) : itCells (L ++ [y]) = itCells L ++ [vb y.2.tag, y.1] := by simp [itCells]
theorem itCells_get : ∀ (L : List (Value × TItem)) (i : Nat) (v : Value) (e : TItem), L[i]? = some (v, e) → (itCells L)[i * 2]? = some (vb e.tag) ∧ (itCells L)[i * 2 + 1]? = some v
 | [], i, v, e, h => by simp at h
 | y :: t, 0, v, e, hi => by
  simp only [List.getElem?_cons_zero, Option.some.injEq] at hi
  subst hi
  exact ⟨rfl, rfl⟩
 | y :: t, i + 1, v, e, hi => by
  have := itCells_get t i v e (by simpa using hi)
  rw [show (i + 1) * 2 = i * 2 + 2 by omega, show i * 2 + 2 + 1 = (i * 2 + 1) + 2 by omega]
  exact this
def Its (ty : TypeId) (v : Value) (L : List (Value × TItem)) : SP := own ty 2 v L.length (itCells L) * itStars L
theorem Its.nil {ty : TypeId} {F : SP} {w : World} (h : F.on w) : (Its ty (.slice Option.none 0 0) [] * F).on w := by
 show ((own ty 2 (.slice Option.none 0 0) 0 [] * emp) * F).on w
 rw [SP.mul_assoc]
 exact own_nil _ 2 (on_emp_mul.2 h)
theorem Its.push {ty : TypeId} {v2 x : Value} {L : List (Value × TItem)} {it : TItem} {F : SP} {w : World} (h : (own ty 2 v2 (L.length + 1) (itCells L ++ [vb it.tag, x]) * (itStars L * (ownT x it.value * F))).on w) :
  (Its ty v2 (L ++ [(x, it)]) * F).on w := by
 unfold Its
 rw [itCells_snoc, itStars_snoc, List.length_append, SP.mul_assoc, SP.mul_assoc]
 exact h
def parseF : Nat → List UInt8 → UInt8 → List TItem → List TItem × Nat
 | _, [], _, acc => (acc, 0)
 | _, [_], _, _ => ([], 18)
 | 0, _ :: _ :: _, _, _ => ([], 18)
 | f + 1, tag :: sz :: rest, last, acc => if fitsN tag last sz.toNat acc.length ≠ 0 then ([], fitsN tag last sz.toNat acc.length)
  else if rest.length < sz.toNat then ([], 18) else parseF f (rest.drop sz.toNat) tag (acc ++ [⟨tag, rest.take sz.toNat⟩])
end Go.Proofs.YtjdebgbiockafaaGreatDoor
namespace Go.Proofs.YtjdebgbiockafaaGreatDoor
open Go.RowKit
def OpOk (P : Program) (o : Oper) (ev : Operand → Value) (w : World) (R : Value → World → Prop) : Prop :=
 match (execOp ev o).run P w with
 | .ok (.value v) w' => R v w'
 | .ok .skip w' => R undef w'
 | .ok (.enter f args) w' => Calls P f args w' fun e w'' => ∃ v, e = .returned v ∧ R v w''
 | _ => False
def slotOf (ops : Array Oper) (ev : Operand → Value) (i : Nat) : Value := match ops[i]? with
 | some o => (match o.dst with | some d => ev (.tmp d) | Option.none => undef)
 | Option.none => undef
def isDst (ops : Array Oper) : Operand → Bool
 | .tmp t => ops.toList.any (fun o => o.dst == some t)
 | _ => false
def factsOf (ops : Array Oper) (V : Nat → Value → World → Prop) (ev : Operand → Value) (w : World) : List Edge → Prop
 | [] => True
 | e :: es => (if Region.binds .any e then V e.on (slotOf ops ev e.on) w else True) ∧ factsOf ops V ev w es
def knownOf (ops : Array Oper) (a0 : Act) (ev : Operand → Value) : List Operand → Prop
 | [] => True
 | x :: xs => (if isDst ops x then True else ev x = a0.eval x) ∧ knownOf ops a0 ev xs
def Base (ev : Operand → Value) : Prop := (∀ c, ev (.const c) = c) ∧ (∀ f, ev (.func f) = .func (.func f) #[] #[]) ∧ ∀ g, ev (.global g) = .pointer (some ⟨g, 0, .none⟩)
theorem base_of (a : Act) : Base a.eval := ⟨fun _ => rfl, fun _ => rfl, fun _ => rfl⟩
def Todo (P : Program) (ops : Array Oper) (V : Nat → Value → World → Prop) (T : World → World → Prop) (a0 : Act) (w1 : World) : Nat → List Oper → Prop
 | _, [] => True
 | i, o :: rest => (∀ (ev : Operand → Value) (w : World), T w1 w → Base ev → knownOf ops a0 ev o.op.operands.toList → factsOf ops V ev w o.after.toList →
   match o.guard with
   | Option.none => OpOk P o ev w (fun v w' => V i v w' ∧ T w w')
   | some (j, want) => ∃ b, slotOf ops ev j = .bool b ∧ (b = want → OpOk P o ev w (fun v w' => V i v w' ∧ T w w')) ∧ (b ≠ want → V i undef w)) ∧ Todo P ops V T a0 w1 (i + 1) rest
def Rest (V : Nat → Value → World → Prop) (Q : Exit → Act → World → Prop) (w : World) : Nat → List Oper → Act → Prop
 | _, [], a => Q .normal a w
 | i, o :: rest, a => ∀ v, V i v w → Rest V Q w (i + 1) rest (a.put o.dst v)
def okOps (ops : Array Oper) (n : Nat) : Bool := (List.range ops.size).all fun i => match ops[i]? with
 | some o => o.after.all (fun e => !Region.binds .any e || decide (e.on < i)) &&
   (match o.dst with | some d => decide (d < n) && (List.range i).all (fun j => (ops[j]?.bind (·.dst)) != some d) | Option.none => true) &&
   (match o.guard with | some (j, _) => o.after.any (fun e => Region.binds .any e && e.on == j) && ((ops[j]?).bind (·.dst)).isSome | Option.none => true)
 | Option.none => true
section
variable {P : Program} {n : Nat} {ops : Array Oper} {V : Nat → Value → World → Prop} {T : World → World → Prop} {a0 : Act} {w1 : World} {Q : Exit → Act → World → Prop}
theorem ok_edge (h : okOps ops n = true) {i : Nat} {o : Oper} (ho : ops[i]? = some o) {e : Edge} (he : e ∈ o.after) (hb : Region.binds .any e = true) : e.on < i := by
 have hi : i < ops.size := (Array.getElem?_eq_some_iff.1 ho).1
 have := List.all_eq_true.1 h i (List.mem_range.2 hi)
 simp only [ho, Bool.and_eq_true] at this
 have h1 := Array.all_eq_true_iff_forall_mem.1 this.1.1 e he
 simpa [hb] using h1
theorem ok_size (h : okOps ops n = true) {i : Nat} {o : Oper} (ho : ops[i]? = some o) {d : Nat} (hd : o.dst = some d) : d < n := by
 have hi : i < ops.size := (Array.getElem?_eq_some_iff.1 ho).1
 have := List.all_eq_true.1 h i (List.mem_range.2 hi)
 simp only [ho, hd, Bool.and_eq_true, decide_eq_true_eq] at this
 exact this.1.2.1
theorem ok_apart (h : okOps ops n = true) {i j : Nat} {o o' : Oper} (ho : ops[i]? = some o) (ho' : ops[j]? = some o') {d : Nat} (hd : o.dst = some d) (hd' : o'.dst = some d) : i = j := by
 have key : ∀ {i j : Nat} {o o' : Oper}, ops[i]? = some o → ops[j]? = some o' → o.dst = some d → o'.dst = some d → j < i → False := by
  intro i j o o' ho ho' hd hd' hlt
  have hi : i < ops.size := (Array.getElem?_eq_some_iff.1 ho).1
  have := List.all_eq_true.1 h i (List.mem_range.2 hi)
  simp only [ho, hd, Bool.and_eq_true] at this
  have h1 := List.all_eq_true.1 this.1.2.2 j (List.mem_range.2 hlt)
  simp [ho', hd'] at h1
 rcases Nat.lt_trichotomy i j with hlt | he | hlt
 ·exact (key ho' ho hd' hd hlt).elim
 ·exact he
 exact (key ho ho' hd hd' hlt).elim
theorem ok_guard (h : okOps ops n = true) {i : Nat} {o : Oper} (ho : ops[i]? = some o) {j : Nat} {want : Bool} (hg : o.guard = some (j, want)) : ∃ o' d, ops[j]? = some o' ∧ o'.dst = some d := by
 have hi : i < ops.size := (Array.getElem?_eq_some_iff.1 ho).1
 have := List.all_eq_true.1 h i (List.mem_range.2 hi)
 simp only [ho, hg, Bool.and_eq_true] at this
 have h1 := this.2.2
 cases hj : ops[j]? with
 | none => simp [hj] at h1
 | some o' =>
  simp only [hj, Option.bind_some] at h1
  exact ⟨o', _, rfl, Option.eq_some_of_isSome h1⟩
structure Inv (ops : Array Oper) (V : Nat → Value → World → Prop) (T : World → World → Prop) (a0 : Act) (w1 : World) (listed : Array Bool) (a : Act) (w : World) : Prop where
 t : T w1 w
 defers : a.defers = a0.defers
 size : a.tmps.size = a0.tmps.size
 keep : ∀ (t : Nat), (∀ (i : Nat) (o : Oper), ops[i]? = some o → o.dst ≠ some t) → a.tmps[t]? = a0.tmps[t]?
 vals : ∀ i, i < ops.size → listed.getD i true = true → V i (slotOf ops a.eval i) w
theorem known_of {a : Act} (h : ∀ (t : Nat), (∀ (i : Nat) (o : Oper), ops[i]? = some o → o.dst ≠ some t) → a.tmps[t]? = a0.tmps[t]?) : ∀ xs, knownOf ops a0 a.eval xs
 | [] => trivial
 | x :: xs => by
  refine ⟨?_, known_of h xs⟩
  split
  ·trivial
  rename_i hd
  cases x with
  | tmp t =>
   simp only [isDst, Bool.not_eq_true] at hd
   have : a.tmps[t]? = a0.tmps[t]? := h t (fun i o ho e => by
    have hm : o ∈ ops.toList := by simpa using Array.mem_of_getElem? ho
    have := List.any_eq_false.1 hd o hm
    simp [e] at this)
   simp [Act.eval, Array.getD_eq_getD_getElem?, this]
  | const c => rfl
  | global g => rfl
  | func f => rfl
theorem facts_of {a : Act} {w : World} : ∀ es : List Edge, (∀ e ∈ es, Region.binds .any e = true → V e.on (slotOf ops a.eval e.on) w) → factsOf ops V a.eval w es
 | [], _ => trivial
 | e :: es, h => by
  refine ⟨?_, facts_of es (fun e he => h e (List.mem_cons_of_mem _ he))⟩
  split
  ·exact h e List.mem_cons_self (by assumption)
  trivial
theorem todo_at : ∀ (l : List Oper) (k i : Nat) (o : Oper), Todo P ops V T a0 w1 k l → l[i]? = some o →
  (∀ (ev : Operand → Value) (w : World), T w1 w → Base ev → knownOf ops a0 ev o.op.operands.toList → factsOf ops V ev w o.after.toList →
   match o.guard with
   | Option.none => OpOk P o ev w (fun v w' => V (k + i) v w' ∧ T w w')
   | some (j, want) => ∃ b, slotOf ops ev j = .bool b ∧ (b = want → OpOk P o ev w (fun v w' => V (k + i) v w' ∧ T w w')) ∧ (b ≠ want → V (k + i) undef w))
 | [], _, _, _, _, h => by simp at h
 | x :: l, k, 0, o, h, e => by simp at e; subst e; exact h.1
 | x :: l, k, i + 1, o, h, e => by
  have := todo_at l (k + 1) i o h.2 (by simpa using e)
  rw [show k + (i + 1) = k + 1 + i by omega]
  exact this
theorem slot_put (hok : okOps ops n = true) {a : Act} (hs : a.tmps.size = n) {i j : Nat} {o : Oper} (ho : ops[i]? = some o) (v : Value) (hj : j ≠ i) : slotOf ops (a.put o.dst v).eval j = slotOf ops a.eval j := by
 unfold slotOf
 cases hoj : ops[j]? with
 | none => rfl
 | some o' =>
  simp only []
  cases hd' : o'.dst with
  | none => rfl
  | some d' =>
   simp only []
   cases hd : o.dst with
   | none => rfl
   | some d =>
    have : d ≠ d' := fun e => hj (ok_apart hok hoj ho hd' (by rw [hd, e]))
    simp [Act.put, Act.eval, this]
theorem slot_self (hok : okOps ops n = true) {a : Act} (hs : a.tmps.size = n) {i : Nat} {o : Oper} (ho : ops[i]? = some o) (v : Value) (hv : o.dst = Option.none → v = undef) : slotOf ops (a.put o.dst v).eval i = v := by
 unfold slotOf
 simp only [ho]
 cases hd : o.dst with
 | none => exact (hv hd).symm
 | some d =>
  have := ok_size hok ho hd
  simp [Act.put, Act.eval, hs, this]
theorem inv_put (hok : okOps ops a0.tmps.size = true) (hTt : ∀ a b c, T a b → T b c → T a c) (hVT : ∀ i v w w', V i v w → T w w' → V i v w') {listed : Array Bool} {a : Act} {w w' : World} (h : Inv ops V T a0 w1 listed a w)
  {i : Nat} {o : Oper} (ho : ops[i]? = some o) (v : Value) (ht : T w w') (hv : V i (slotOf ops (a.put o.dst v).eval i) w') : Inv ops V T a0 w1 (listed.setIfInBounds i true) (a.put o.dst v) w' := by
 refine ⟨hTt _ _ _ h.t ht, ?_, ?_, ?_, ?_⟩
 ·cases hd : o.dst <;> simp [Act.put, h.defers]
 ·cases hd : o.dst <;> simp [Act.put, h.size]
 ·intro t htt
  cases hd : o.dst with
  | none => exact h.keep t htt
  | some d =>
   have : d ≠ t := fun e => htt i o ho (by rw [hd, e])
   simp only [Act.put]
   rw [Array.getElem?_setIfInBounds, if_neg this]
   exact h.keep t htt
 intro j hj hl
 by_cases hji : j = i
 ·subst hji; exact hv
 rw [slot_put hok h.size ho v hji]
 refine hVT _ _ _ _ (h.vals j hj ?_) ht
 rw [Array.getD_eq_getD_getElem?, Array.getElem?_setIfInBounds, if_neg (Ne.symm hji)] at hl
 rw [Array.getD_eq_getD_getElem?]
 exact hl
theorem countP_lt {p q : Nat → Bool} : ∀ (l : List Nat) (i : Nat), i ∈ l → (∀ x, q x = true → p x = true) → p i = true → q i = false → l.countP q < l.countP p
 | [], _, h, _, _, _ => by simp at h
 | x :: l, i, h, hqp, hp, hq => by
  have hle : l.countP q ≤ l.countP p := List.countP_mono_left (fun x _ => hqp x)
  rw [List.countP_cons, List.countP_cons]
  by_cases hx : x = i
  ·subst hx; simp [hp, hq]; omega
  have hm : i ∈ l := by simpa [Ne.symm hx] using h
  have := countP_lt l i hm hqp hp hq
  by_cases hqx : q x = true
  ·simp [hqx, hqp x hqx]; omega
  ·simp [hqx]; split <;> omega
theorem getD_set {listed : Array Bool} {i j : Nat} (hi : i < listed.size) : (listed.setIfInBounds i true).getD j true = (if j = i then true else listed.getD j true) := by
 rw [Array.getD_eq_getD_getElem?, Array.getD_eq_getD_getElem?, Array.getElem?_setIfInBounds]
 by_cases h : i = j
 ·rw [if_pos h, if_pos hi, if_pos h.symm]; rfl
 rw [if_neg h, if_neg (Ne.symm h)]
theorem count_set {listed : Array Bool} {i : Nat} (hi : i < n) (hn : listed.size = n) (hl : listed.getD i true = false) :
  (List.range n).countP (fun j => !(listed.setIfInBounds i true).getD j true) < (List.range n).countP (fun j => !listed.getD j true) := by
 refine countP_lt _ i (List.mem_range.2 hi) ?_ (by simpa using hl) (by rw [getD_set (by omega)]; simp)
 intro x hx
 rw [getD_set (by omega)] at hx
 split at hx
 ·simp at hx
 exact hx
theorem ready_all (hok : okOps ops n = true) {listed : Array Bool} (hs : listed.size = ops.size) (hr : Region.ready .any ops listed = []) : ∀ i, i < ops.size → listed.getD i true = true := by
 intro i
 induction i using Nat.strongRecOn with
 | ind i ih =>
  intro hi
  cases hl : listed.getD i true with
  | true => rfl
  | false =>
   have hm : i ∈ Region.ready .any ops listed := by
    refine List.mem_filter.2 ⟨List.mem_range.2 hi, ?_⟩
    rw [hl]
    have ho : ops[i]? = some ops[i] := Array.getElem?_eq_getElem hi
    simp only [Bool.not_false, Bool.true_and, ho, Option.map_some, Option.getD_some]
    refine Array.all_eq_true_iff_forall_mem.2 fun e he => ?_
    cases hb : Region.binds .any e with
    | false => simp
    | true =>
     have hlt := ok_edge hok ho he hb
     have h2 := ih e.on hlt (by omega)
     simp only [Bool.not_true, Bool.false_or]
     rw [Array.getD_eq_getD_getElem?, Array.getElem?_eq_getElem (by omega)] at h2 ⊢
     exact h2
   rw [hr] at hm; simp at hm
theorem ready_mem {listed : Array Bool} (hs : listed.size = ops.size) {i : Nat} (hi : i ∈ Region.ready .any ops listed) :
  ∃ o, ops[i]? = some o ∧ i < ops.size ∧ listed.getD i true = false ∧ ∀ e ∈ o.after, Region.binds .any e = true → e.on < ops.size → listed.getD e.on true = true := by
 obtain ⟨h1, h2⟩ := List.mem_filter.1 hi
 have hlt := List.mem_range.1 h1
 have ho : ops[i]? = some ops[i] := Array.getElem?_eq_getElem hlt
 simp only [Bool.and_eq_true, ho, Option.map_some, Option.getD_some] at h2
 refine ⟨_, ho, hlt, by simpa using h2.1, fun e he hb hon => ?_⟩
 have := Array.all_eq_true_iff_forall_mem.1 h2.2 e he
 simp only [hb, Bool.not_true, Bool.false_or] at this
 rw [Array.getD_eq_getD_getElem?, Array.getElem?_eq_getElem (by omega)] at this ⊢
 exact this
theorem wp_of_ok {o : Oper} {a : Act} {w : World} {R : Value → World → Prop} {K : Act → World → Prop} (h : OpOk P o a.eval w R) (hK : ∀ v w', R v w' → (o.dst = Option.none → True) → K (a.put o.dst v) w') : o.wp P a w K Q := by
 unfold OpOk at h
 unfold Oper.wp
 generalize (execOp a.eval o).run P w = r at *
 cases r with
 | ok x w' =>
  cases x with
  | value v => exact hK _ _ h (fun _ => trivial)
  | skip => exact hK _ _ h (fun _ => trivial)
  | enter f args =>
   simp only [Oper.upon]
   refine h.mono ?_
   rintro e w'' ⟨v, rfl, hr⟩
   exact hK _ _ hr (fun _ => trivial)
  | _ => exact h.elim
 | halt x w' => exact h.elim
theorem free_any (hok : okOps ops a0.tmps.size = true) (hTr : ∀ w, T w w) (hTt : ∀ a b c, T a b → T b c → T a c) (hVT : ∀ i v w w', V i v w → T w w' → V i v w') (hV0 : ∀ (i : Nat) (o : Oper), ops[i]? = some o → o.dst = Option.none → ∀ v w, V i v w → V i undef w)
  (htodo : Todo P ops V T a0 w1 0 ops.toList) (hend : ∀ (listed : Array Bool) a w, (∀ i, i < ops.size → listed.getD i true = true) → Inv ops V T a0 w1 listed a w → Q .normal a w) :
  ∀ (fuel : Nat) (listed : Array Bool) (a : Act) (w : World), listed.size = ops.size → (List.range ops.size).countP (fun j => !listed.getD j true) ≤ fuel → Inv ops V T a0 w1 listed a w → wpAny P .any ops Q fuel listed a w
 | 0, listed, a, w, hs, hc, hinv => by
  have hall : ∀ i, i < ops.size → listed.getD i true = true := by
   intro i hi
   have h0 : (List.range ops.size).countP (fun j => !listed.getD j true) = 0 := by omega
   have := List.countP_eq_zero.1 h0 i (List.mem_range.2 hi)
   simpa using this
  refine ⟨?_, hend listed a w hall hinv⟩
  unfold Region.ready
  refine List.filter_eq_nil_iff.2 fun i hi => ?_
  simp [hall i (List.mem_range.1 hi)]
 | fuel + 1, listed, a, w, hs, hc, hinv => by
  refine ⟨fun hr => hend listed a w (ready_all hok hs hr) hinv, fun i hi => ?_⟩
  obtain ⟨o, ho, hlt, hl, haft⟩ := ready_mem hs hi
  have hstep := todo_at ops.toList 0 i o htodo (by simpa using ho)
  have hstep := hstep a.eval w hinv.t (base_of a) (known_of hinv.keep _) (facts_of _ fun e he hb => hinv.vals _ (by have := ok_edge hok ho (by simpa using he) hb; omega) (haft e (by simpa using he) hb (by have := ok_edge hok ho (by simpa using he) hb; omega)))
  rw [Nat.zero_add] at hstep
  have next : ∀ v w', V i v w' ∧ T w w' → wpAny P .any ops Q fuel (listed.setIfInBounds i true) (a.put o.dst v) w' := by
   intro v w' ⟨hv, ht⟩
   refine free_any hok hTr hTt hVT hV0 htodo hend fuel _ _ _ (by simpa using hs) ?_ (inv_put hok hTt hVT hinv ho v ht ?_)
   ·have := count_set (n := ops.size) hlt hs hl
    omega
   cases hd : o.dst with
   | none =>
    have : slotOf ops (a.put Option.none v).eval i = undef := by simp [slotOf, ho, hd]
    rw [this]
    exact hV0 i o ho hd v w' hv
   | some d =>
    have := slot_self hok hinv.size ho v (by rw [hd]; intro h; cases h)
    rw [hd] at this
    rw [this]; exact hv
  unfold wpOp
  simp only [ho]
  cases hg : o.guard with
  | none =>
   rw [hg] at hstep
   rw [if_pos (by simp [Region.wanted, hg])]
   exact .inl (wp_of_ok hstep fun v w' h _ => next v w' h)
  | some jw =>
   obtain ⟨j, want⟩ := jw
   rw [hg] at hstep
   obtain ⟨b, hb, h1, h2⟩ := hstep
   obtain ⟨o', d, ho', hd'⟩ := ok_guard hok ho hg
   have hy : yielded ops a.tmps j = some b := by
    simp only [slotOf, ho', hd', Act.eval, Array.getD_eq_getD_getElem?] at hb
    simp only [yielded, ho', hd', Option.bind_some]
    cases hx : a.tmps[d]? with
    | none => rw [hx] at hb; simp [undef] at hb
    | some x => rw [hx] at hb; simp only [Option.getD_some] at hb; subst hb; rfl
   by_cases hbw : b = want
   ·rw [if_pos (by simp [Region.wanted, hg, hy, hbw])]
    exact .inl (wp_of_ok (h1 hbw) fun v w' h _ => next v w' h)
   rw [if_neg (by simp [Region.wanted, hg, hy, hbw])]
   exact next undef w ⟨h2 hbw, hTr w⟩
def ends (a : Act) (ev : Operand → Value) : List Oper → Act
 | [] => a
 | o :: l => ends (match o.dst with | some d => a.put (some d) (ev (.tmp d)) | Option.none => a.put Option.none undef) ev l
theorem ends_get (ev : Operand → Value) : ∀ (l : List Oper) (a : Act) (t : Nat), (ends a ev l).tmps[t]? = if t < a.tmps.size ∧ (∃ o ∈ l, o.dst = some t) then some (ev (.tmp t)) else a.tmps[t]?
 | [], a, t => by simp [ends]
 | o :: l, a, t => by
  rw [ends, ends_get ev l]
  cases hd : o.dst with
  | none =>
   by_cases hc : t < a.tmps.size ∧ ∃ o, o ∈ l ∧ o.dst = some t <;> simp [Act.put, hd, hc]
  | some d =>
   by_cases hdt : d = t
   ·subst hdt
    by_cases hs : d < a.tmps.size <;> simp [Act.put, hd, hs]
   simp [Act.put, hd, hdt]
theorem ends_defers (ev : Operand → Value) : ∀ (l : List Oper) (a : Act), (ends a ev l).defers = a.defers
 | [], a => rfl
 | o :: l, a => by rw [ends, ends_defers ev l]; cases o.dst <;> rfl
theorem rest_ends {w : World} {ev : Operand → Value} : ∀ (l : List Oper) (k : Nat) (a : Act), (∀ i o, l[i]? = some o → V (k + i) (match o.dst with | some d => ev (.tmp d) | Option.none => undef) w) → Rest V Q w k l a → Q .normal (ends a ev l) w
 | [], _, _, _, h => h
 | o :: l, k, a, hv, h => by
  have h0 := hv 0 o rfl
  have h1 := h _ h0
  have h2 := rest_ends l (k + 1) _ (fun i o' ho' => by
   have := hv (i + 1) o' (by simpa using ho')
   rw [show k + 1 + i = k + (i + 1) by omega]
   exact this) h1
  rw [ends]
  cases hd : o.dst with
  | none => rw [hd] at h2; exact h2
  | some d => rw [hd] at h2; exact h2
theorem wp_region_free {id : Nat} {l : List Oper} {w0 : World} (V : Nat → Value → World → Prop) (T : World → World → Prop) (hm : P.follows .mixedOrders = true) (hok : okOps l.toArray a0.tmps.size = true)
  (hTr : ∀ w, T w w) (hTt : ∀ a b c, T a b → T b c → T a c) (hVT : ∀ i v w w', V i v w → T w w' → V i v w')
  (hV0 : ∀ (i : Nat) (o : Oper), l.toArray[i]? = some o → o.dst = Option.none → ∀ v w, V i v w → V i undef w)
  (htodo : Todo P l.toArray V T a0 w0.drew 0 l) (hend : ∀ w, T w0.drew w → Rest V Q w 0 l a0) : (Code.region id l.toArray true).wp P Q a0 w0 := by
 refine wp_region_any hm ?_
 refine free_any (a0 := a0) (w1 := w0.drew) hok hTr hTt hVT hV0 (by simpa using htodo) ?_ _ _ _ _ (by simp) ?_ ⟨hTr _, rfl, rfl, fun _ _ => rfl, ?_⟩
 ·intro listed a w hall hinv
  have h := rest_ends (ev := a.eval) l 0 a0 (fun i o ho => by
   have hi : i < l.length := (List.getElem?_eq_some_iff.1 ho).1
   have := hinv.vals i (by simpa using hi) (hall i (by simpa using hi))
   rw [Nat.zero_add]
   simpa [slotOf, ho] using this) (hend w hinv.t)
  have : ends a0 a.eval l = a := by
   have h1 := ends_defers a.eval l a0
   have h2 : (ends a0 a.eval l).tmps = a.tmps := by
    apply Array.ext_getElem?
    intro t
    rw [ends_get]
    split
    ·rename_i hc
     simp [Act.eval, hinv.size, hc.1]
    rename_i hc
    by_cases ht : t < a0.tmps.size
    ·refine (hinv.keep t fun i o ho e => hc ⟨ht, o, ?_, e⟩).symm
     have : l[i]? = some o := by simpa using ho
     exact List.mem_of_getElem? this
    rw [Array.getElem?_eq_none (by omega), Array.getElem?_eq_none (by rw [hinv.size]; omega)]
   cases hx : ends a0 a.eval l with
   | mk t d =>
    rw [hx] at h1 h2
    cases a with
    | mk t' d' =>
     have h3 := hinv.defers
     simp only at h1 h2 h3
     rw [h2, h1, ← h3]
  rw [this] at h
  exact h
 ·exact Nat.le_trans List.countP_le_length (by simp)
 intro i hi hl
 rw [Array.getD_eq_getD_getElem?, Array.getElem?_replicate, if_pos hi] at hl
 cases hl
end
abbrev isV (x : Value) : Value → World → Prop := fun v _ => v = x
def vList (l : List (Value → World → Prop)) (i : Nat) : Value → World → Prop := (l[i]?).getD (fun _ _ => True)
abbrev Stay (w w' : World) : Prop := Below w.heap.size w w'
theorem Stay.refl (w : World) : Stay w w := Below.refl _ _
theorem Stay.trans {a b c : World} (h : Stay a b) (k : Stay b c) : Stay a c := Below.trans h (Below.mono k h.size)
def Keep (p : Value → World → Prop) : Prop := ∀ v w w', p v w → Stay w w' → p v w'
theorem Keep.isV (x : Value) : Keep (isV x) := fun _ _ _ h _ => h
theorem vList_keep {l : List (Value → World → Prop)} (h : ∀ p ∈ l, Keep p) : ∀ i v w w', vList l i v w → Stay w w' → vList l i v w' := by
 intro i v w w' hv hs
 unfold vList at *
 cases hx : l[i]? with
 | none => trivial
 | some p =>
  rw [hx] at hv
  exact h p (List.mem_of_getElem? hx) v w w' hv hs
def KeepAll : List (Value → World → Prop) → Prop
 | [] => True
 | p :: l => Keep p ∧ KeepAll l
theorem KeepAll.mem : ∀ {l : List (Value → World → Prop)}, KeepAll l → ∀ p ∈ l, Keep p
 | [], _, _, h => by simp at h
 | p :: l, h, q, hq => by
  rcases List.mem_cons.1 hq with rfl | hq
  ·exact h.1
  exact h.2.mem q hq
theorem Rest.done {V : Nat → Value → World → Prop} {Q : Exit → Act → World → Prop} {w : World} {i : Nat} {a : Act} (h : Q .normal a w) : Rest V Q w i [] a := h
theorem Todo.from' {P : Program} {ops : Array Oper} {V : Nat → Value → World → Prop} {T : World → World → Prop} {a0 : Act} {w1 w2 : World} (h : ∀ w, T w1 w → T w2 w) : ∀ (l : List Oper) (i : Nat), Todo P ops V T a0 w2 i l → Todo P ops V T a0 w1 i l
 | [], _, _ => trivial
 | _ :: l, i, ht => ⟨fun ev w hw => ht.1 ev w (h w hw), Todo.from' h l (i + 1) ht.2⟩
theorem Stay.undrew {w w' : World} (h : Stay w.drew w') : Stay w w' := ⟨h.os, h.tape, h.output, h.size, h.block⟩
theorem wp_region_vs {P : Program} {id : Nat} {l : List Oper} {w0 : World} {a0 : Act} {Q : Exit → Act → World → Prop} (L : List (Value → World → Prop)) (hm : P.follows .mixedOrders = true) (hok : okOps l.toArray a0.tmps.size = true)
  (hds : (l.all fun o => o.dst.isSome) = true) (hk : KeepAll L) (htodo : Todo P l.toArray (vList L) Stay a0 w0 0 l) (hend : ∀ w, Stay w0 w → Rest (vList L) Q w 0 l a0) : (Code.region id l.toArray true).wp P Q a0 w0 :=
 wp_region_free (vList L) Stay hm hok Stay.refl (fun _ _ _ h k => Stay.trans h k) (vList_keep hk.mem) (fun i o ho hd => by
  have := List.all_eq_true.1 hds o (by simpa using Array.mem_of_getElem? ho)
  simp [hd] at this) (Todo.from' (fun _ h => h.undrew) l 0 htodo) (fun w h => hend w h.undrew)
abbrev iv : List Value → List (Value → World → Prop)
 | [] => []
 | v :: l => isV v :: iv l
theorem fP {c p : Prop} [Decidable c] (h : if c then p else True) (hc : c) : p := by rw [if_pos hc] at h; exact h
theorem fX (ev : Operand → Value) {v : Value} (t : Tmp) (h : ev (.tmp t) = v) : ev (.tmp t) = v := h
theorem fV (ev : Operand → Value) (t : Tmp) (v : Value) (h : ev (.tmp t) = v) : ev (.tmp t) = v := h
theorem pK {q a b : Prop} {P : Bool → Prop} (h : P false) (hb : b := by kernel_rfl) : q → ∀ ph : Bool, (a → ph = true) → (b → ph = false) → P ph := fun _ ph _ h2 => by rw [h2 hb]; exact h
theorem kP {L : List (Value → World → Prop)} (h : KeepAll L := by repeat (first | exact trivial | refine ⟨fun _ _ _ h _ => h, ?_⟩)) : KeepAll L := h
def Fr : List (Value → World → Prop) → Prop
 | [] => True
 | p :: l => (∀ v w w', p v w → p v w') ∧ Fr l
theorem Fr.mem : ∀ {l : List (Value → World → Prop)}, Fr l → ∀ p ∈ l, ∀ v w w', p v w → p v w'
 | [], _, _, h => by simp at h
 | p :: l, h, q, hq => by
  rcases List.mem_cons.1 hq with rfl | hq
  ·exact h.1
  exact h.2.mem q hq
theorem fR {L : List (Value → World → Prop)} (h : Fr L := by repeat (first | exact trivial | refine ⟨fun _ _ _ h => h, ?_⟩)) : ∀ p ∈ L, ∀ v w w', p v w → p v w' := h.mem
theorem rV {P : Program} {id : Nat} {l : List Oper} {w0 : World} {a0 : Act} {Q : Exit → Act → World → Prop} (L : List (Value → World → Prop)) (htodo : Todo P l.toArray (vList L) Stay a0 w0 0 l) (hend : ∀ w, Stay w0 w → Rest (vList L) Q w 0 l a0)
  (hm : P.follows .mixedOrders = true := by kernel_rfl) (hok : okOps l.toArray a0.tmps.size = true := by kernel_rfl) (hds : (l.all fun o => o.dst.isSome) = true := by rfl) (hk : KeepAll L := by repeat (first | exact trivial | refine ⟨fun _ _ _ h _ => h, ?_⟩)) : (Code.region id l.toArray true).wp P Q a0 w0 :=
 wp_region_vs L hm hok hds hk htodo hend
section
variable {P : Program} {o : Oper} {ev : Operand → Value} {W : World} {R : Value → World → Prop}
theorem OpOk.run {v : Value} {W' : World} (h : (execOp ev o).run P W = .ok (.value v) W') (hr : R v W') : OpOk P o ev W R := by unfold OpOk; rw [h]; exact hr
theorem OpOk.move {x : Operand} {v : Value} (ho : o.op = .move x) (hx : ev x = v) (h : R v W) : OpOk P o ev W R := OpOk.run (v := v) (W' := W) (by simp [execOp, ho, hx]) h
theorem OpOk.assign {x : Operand} {v : Value} (ho : o.op = .assign x) (hx : ev x = v) (h : R v W) : OpOk P o ev W R := OpOk.run (v := v) (W' := W) (by simp [execOp, ho, hx]) h
theorem OpOk.enters {f : FuncId} {args : Array Value} {W' : World} (h : (execOp ev o).run P W = .ok (.enter f args) W') (hc : Calls P f args W' fun e w'' => ∃ v, e = .returned v ∧ R v w'') : OpOk P o ev W R := by unfold OpOk; rw [h]; exact hc
theorem OpOk.al {z : Array Value} {t : TypeId} {n : Nat} (hn : n ≤ W.heap.size) (h : (execOp ev o).run P W = .ok (.value (.pointer (some ⟨W.heap.size, 0, Option.none⟩))) (W.alloc (.cells z t))) : OpOk P o ev W (fun u X => (∃ g, u = .pointer (some ⟨g, 0, Option.none⟩) ∧ n ≤ g ∧ X.heap[g]? = some (.cells z t (0, 0))) ∧ Stay W X) :=
 OpOk.run h ⟨⟨_, rfl, hn, heap_alloc_new W _⟩, (Below.refl W.heap.size W).alloc (Nat.le_refl _) _⟩
theorem OpOk.r {v : Value} (h : (execOp ev o).run P W = .ok (.value v) W) : OpOk P o ev W (fun u X => isV v u X ∧ Stay W X) := OpOk.run h ⟨rfl, Stay.refl _⟩
theorem OpOk.m {x : Operand} {v : Value} (ho : o.op = .move x) (hx : ev x = v) : OpOk P o ev W (fun u X => isV v u X ∧ Stay W X) := OpOk.move ho hx ⟨rfl, Stay.refl _⟩
theorem OpOk.c {f : FuncId} {args : Array Value} {v : Value} (h : (execOp ev o).run P W = .ok (.enter f args) W) (hc : Calls P f args W fun e w' => e = .returned v ∧ Below W.heap.size W w') : OpOk P o ev W (fun u X => isV v u X ∧ Stay W X) :=
 OpOk.enters h (hc.mono (by rintro e _ ⟨rfl, hB⟩; exact ⟨_, rfl, rfl, hB⟩))
theorem OpOk.s {P : Program} {o : Oper} {ev : Operand → Value} {W : World} {x : Operand} {u v : Value} (e : ev x = u) (hb : Base ev) (h : ev x = u → Base ev → (execOp ev o).run P W = .ok (.value v) W := by intro e b; simp [execOp, e, b.1, go_sem]) : OpOk P o ev W (fun y X => isV v y X ∧ Stay W X) := OpOk.r (h e hb)
theorem OpOk.sc {P : Program} {o : Oper} {ev : Operand → Value} {W : World} {x : Operand} {u v z : Value} {a : Addr} (e : ev x = u) (c : W.cell? a = some z) (h : ev x = u → W.cell? a = some z → (execOp ev o).run P W = .ok (.value v) W := by intro e c; simp [execOp, e, c, go_sem]) : OpOk P o ev W (fun y X => isV v y X ∧ Stay W X) := OpOk.r (h e c)
theorem OpOk.s2 {P : Program} {o : Oper} {ev : Operand → Value} {W : World} {x y : Operand} {u t v : Value} (e : ev x = u) (e' : ev y = t) (hb : Base ev) (h : ev x = u → ev y = t → Base ev → (execOp ev o).run P W = .ok (.value v) W := by intro e e' b; simp [execOp, e, e', b, b.1, b.2.1, b.2.2, go_sem]) : OpOk P o ev W (fun y X => isV v y X ∧ Stay W X) := OpOk.r (h e e' hb)
theorem OpOk.w2 {P : Program} {o : Oper} {ev : Operand → Value} {W : World} {x y : Operand} {u t v : Value} {p : Prop} (e : ev x = u) (e' : ev y = t) (hb : Base ev) (k : p) (h : ev x = u → ev y = t → Base ev → p → (execOp ev o).run P W = .ok (.value v) W := by intro e e' b k; simp [execOp, e, e', b.1, k, -UInt64.toNat_add, -UInt64.toNat_xor, -UInt64.toNat_and, -UInt64.toNat_or, -UInt64.toNat_not, -UInt64.toNat_shiftRight, -UInt64.toNat_shiftLeft, go_sem]) : OpOk P o ev W (fun y X => isV v y X ∧ Stay W X) := OpOk.r (h e e' hb k)
theorem OpOk.c0 {P : Program} {o : Oper} {ev : Operand → Value} {W : World} {f : FuncId} {args : Array Value} {v : Value} (hb : Base ev) (hc : Calls P f args W fun e w' => e = .returned v ∧ Below W.heap.size W w') (h : Base ev → (execOp ev o).run P W = .ok (.enter f args) W := by intro  b; simp [execOp, resolve, invoke, b.1, b.2.1, b.2.2, go_sem]) : OpOk P o ev W (fun y X => isV v y X ∧ Stay W X) := OpOk.c (h hb) hc
theorem OpOk.c1 {P : Program} {o : Oper} {ev : Operand → Value} {W : World} {x0 : Operand} {u0 : Value} {f : FuncId} {args : Array Value} {v : Value} (e0 : ev x0 = u0) (hb : Base ev) (hc : Calls P f args W fun e w' => e = .returned v ∧ Below W.heap.size W w') (h : ev x0 = u0 → Base ev → (execOp ev o).run P W = .ok (.enter f args) W := by intro e0 b; simp [execOp, resolve, invoke, e0, b.1, b.2.1, b.2.2, go_sem]) : OpOk P o ev W (fun y X => isV v y X ∧ Stay W X) := OpOk.c (h e0 hb) hc
theorem OpOk.c2 {P : Program} {o : Oper} {ev : Operand → Value} {W : World} {x0 : Operand} {u0 : Value} {x1 : Operand} {u1 : Value} {f : FuncId} {args : Array Value} {v : Value} (e0 : ev x0 = u0) (e1 : ev x1 = u1) (hb : Base ev) (hc : Calls P f args W fun e w' => e = .returned v ∧ Below W.heap.size W w') (h : ev x0 = u0 → ev x1 = u1 → Base ev → (execOp ev o).run P W = .ok (.enter f args) W := by intro e0 e1 b; simp [execOp, resolve, invoke, e0, e1, b.1, b.2.1, b.2.2, go_sem]) : OpOk P o ev W (fun y X => isV v y X ∧ Stay W X) := OpOk.c (h e0 e1 hb) hc
theorem OpOk.c3 {P : Program} {o : Oper} {ev : Operand → Value} {W : World} {x0 : Operand} {u0 : Value} {x1 : Operand} {u1 : Value} {x2 : Operand} {u2 : Value} {f : FuncId} {args : Array Value} {v : Value} (e0 : ev x0 = u0) (e1 : ev x1 = u1) (e2 : ev x2 = u2) (hb : Base ev) (hc : Calls P f args W fun e w' => e = .returned v ∧ Below W.heap.size W w') (h : ev x0 = u0 → ev x1 = u1 → ev x2 = u2 → Base ev → (execOp ev o).run P W = .ok (.enter f args) W := by intro e0 e1 e2 b; simp [execOp, resolve, invoke, e0, e1, e2, b.1, b.2.1, b.2.2, go_sem]) : OpOk P o ev W (fun y X => isV v y X ∧ Stay W X) := OpOk.c (h e0 e1 e2 hb) hc
end
def waits (ops : Array Oper) (j i : Nat) : Bool := match ops[j]? with
 | some o => o.after.any (fun e => Region.binds .any e && e.on == i)
 | Option.none => false
def okSeq (ops : Array Oper) (k : Nat) : Bool :=
 ((List.range k).all fun i => (List.range (k + 1)).any fun j => decide (i < j) && waits ops j i) &&
 (List.range ops.size).all fun t => decide (t ≤ k) || waits ops t (t - 1)
def Down (ops : Array Oper) (listed : Array Bool) : Prop :=
 ∀ (i : Nat) (o : Oper), ops[i]? = some o → listed.getD i false = true → ∀ e ∈ o.after, Region.binds .any e = true → listed.getD e.on false = true
section
variable {P : Program} {n : Nat} {ops : Array Oper} {V : Nat → Value → World → Prop} {T : World → World → Prop} {a0 : Act} {w1 : World} {Q : Exit → Act → World → Prop}
theorem waits_edge {j i : Nat} (h : waits ops j i = true) : ∃ o, ops[j]? = some o ∧ ∃ e ∈ o.after, Region.binds .any e = true ∧ e.on = i := by
 unfold waits at h
 cases ho : ops[j]? with
 | none => simp [ho] at h
 | some o =>
  rw [ho] at h
  simp only [Array.any_eq_true', Bool.and_eq_true, beq_iff_eq] at h
  obtain ⟨e, he, hb, hi⟩ := h
  exact ⟨o, rfl, e, he, hb, hi⟩
theorem seq_all {k : Nat} (hq : okSeq ops k = true) {listed : Array Bool} (hd : Down ops listed) : ∀ (t : Nat), k ≤ t → t < ops.size → ∀ (o : Oper), ops[t]? = some o →
  (∀ e ∈ o.after, Region.binds .any e = true → listed.getD e.on false = true) → ∀ i, i < t → listed.getD i false = true := by
 simp only [okSeq, Bool.and_eq_true] at hq
 obtain ⟨hq1, hq2⟩ := hq
 intro t
 induction t with
 | zero => intro _ _ _ _ _ i hi; omega
 | succ t ih =>
  intro hk ht o ho hr
  rcases Nat.lt_or_ge k (t + 1) with hlt | hge
  ·have h1 := List.all_eq_true.1 hq2 (t + 1) (List.mem_range.2 ht)
   have h2 : waits ops (t + 1) t = true := by
    simp only [Bool.or_eq_true, decide_eq_true_eq] at h1
    rcases h1 with h1 | h1
    ·omega
    simpa using h1
   obtain ⟨o', ho', e, he, hb, hon⟩ := waits_edge h2
   rw [ho] at ho'; cases ho'
   have hlt' : listed.getD t false = true := by have := hr e he hb; rwa [hon] at this
   intro i hi
   by_cases hit : i = t
   ·rw [hit]; exact hlt'
   have hts : t < ops.size := by omega
   have hot : ops[t]? = some ops[t] := Array.getElem?_eq_getElem hts
   exact ih (by omega) hts _ hot (hd t _ hot hlt') i (by omega)
  have hkt : k = t + 1 := by omega
  have key : ∀ d i, i + d = k → i < k → listed.getD i false = true := by
   intro d
   induction d using Nat.strongRecOn with
   | ind d ihd =>
    intro i hid hik
    have h1 := List.all_eq_true.1 hq1 i (List.mem_range.2 hik)
    simp only [List.any_eq_true, Bool.and_eq_true, decide_eq_true_eq, List.mem_range] at h1
    obtain ⟨j, hj, hij, hw⟩ := h1
    obtain ⟨o', ho', e, he, hb, hon⟩ := waits_edge hw
    by_cases hjk : j = k
    ·rw [hjk, hkt, ho] at ho'; cases ho'
     have := hr e he hb
     rwa [hon] at this
    have hl := ihd (k - j) (by omega) j (by omega) (by omega)
    have := hd j o' ho' hl e he hb
    rwa [hon] at this
  intro i hi
  exact key (k - i) i (by omega) (by omega)
theorem ready_mem' {listed : Array Bool} {i : Nat} (hi : i ∈ Region.ready .any ops listed) :
  ∃ o, ops[i]? = some o ∧ i < ops.size ∧ listed.getD i true = false ∧ ∀ e ∈ o.after, Region.binds .any e = true → listed.getD e.on false = true := by
 obtain ⟨h1, h2⟩ := List.mem_filter.1 hi
 have hlt := List.mem_range.1 h1
 have ho : ops[i]? = some ops[i] := Array.getElem?_eq_getElem hlt
 simp only [Bool.and_eq_true, ho, Option.map_some, Option.getD_some] at h2
 refine ⟨_, ho, hlt, by simpa using h2.1, fun e he hb => ?_⟩
 have := Array.all_eq_true_iff_forall_mem.1 h2.2 e he
 simpa [hb] using this
theorem getD_set' {listed : Array Bool} {i j : Nat} (hi : i < listed.size) : (listed.setIfInBounds i true).getD j false = (if j = i then true else listed.getD j false) := by
 rw [Array.getD_eq_getD_getElem?, Array.getD_eq_getD_getElem?, Array.getElem?_setIfInBounds]
 by_cases h : i = j
 ·rw [if_pos h, if_pos hi, if_pos h.symm]; rfl
 rw [if_neg h, if_neg (Ne.symm h)]
theorem down_set {listed : Array Bool} (hd : Down ops listed) (hs : listed.size = ops.size) {i : Nat} (hi : i < ops.size) {o : Oper} (ho : ops[i]? = some o) (hr : ∀ e ∈ o.after, Region.binds .any e = true → listed.getD e.on false = true) : Down ops (listed.setIfInBounds i true) := by
 intro j o' ho' hl e he hb
 rw [getD_set' (by omega)] at hl ⊢
 split
 ·rfl
 by_cases hji : j = i
 ·subst hji; rw [ho] at ho'; cases ho'; exact hr e he hb
 rw [if_neg hji] at hl; exact hd j o' ho' hl e he hb
theorem getD_both {listed : Array Bool} {i : Nat} (h : i < listed.size) : listed.getD i true = listed.getD i false := by
 rw [Array.getD_eq_getD_getElem?, Array.getD_eq_getD_getElem?, Array.getElem?_eq_getElem h]; rfl
def TodoT (P : Program) (pre ops : Array Oper) (V : Nat → Value → World → Prop) (T : World → World → Prop) (a0 : Act) (w1 : World) : Nat → List Oper → Prop
 | _, [] => True
 | i, o :: rest => (∀ (ev : Operand → Value) (w : World), T w1 w → Base ev → knownOf pre a0 ev o.op.operands.toList → factsOf ops V ev w o.after.toList →
   match o.guard with
   | Option.none => OpOk P o ev w (fun v w' => V i v w' ∧ T w w')
   | some (j, want) => ∃ b, slotOf ops ev j = .bool b ∧ (b = want → OpOk P o ev w (fun v w' => V i v w' ∧ T w w')) ∧ (b ≠ want → V i undef w)) ∧ TodoT P pre ops V T a0 w1 (i + 1) rest
theorem todoT_at {pre : Array Oper} : ∀ (l : List Oper) (k i : Nat) (o : Oper), TodoT P pre ops V T a0 w1 k l → l[i]? = some o →
  (∀ (ev : Operand → Value) (w : World), T w1 w → Base ev → knownOf pre a0 ev o.op.operands.toList → factsOf ops V ev w o.after.toList →
   match o.guard with
   | Option.none => OpOk P o ev w (fun v w' => V (k + i) v w' ∧ T w w')
   | some (j, want) => ∃ b, slotOf ops ev j = .bool b ∧ (b = want → OpOk P o ev w (fun v w' => V (k + i) v w' ∧ T w w')) ∧ (b ≠ want → V (k + i) undef w))
 | [], _, _, _, _, h => by simp at h
 | x :: l, k, 0, o, h, e => by simp at e; subst e; exact h.1
 | x :: l, k, i + 1, o, h, e => by
  have := todoT_at l (k + 1) i o h.2 (by simpa using e)
  rw [show k + (i + 1) = k + 1 + i by omega]
  exact this
theorem TodoT.from' {pre : Array Oper} {w2 : World} (h : ∀ w, T w1 w → T w2 w) : ∀ (l : List Oper) (i : Nat), TodoT P pre ops V T a0 w2 i l → TodoT P pre ops V T a0 w1 i l
 | [], _, _ => trivial
 | _ :: l, i, ht => ⟨fun ev w hw => ht.1 ev w (h w hw), TodoT.from' h l (i + 1) ht.2⟩
theorem seq_run {N : Nat} (hok : okOps ops N = true) {k : Nat} (hq : okSeq ops k = true) : ∀ (fuel t : Nat) (listed : Array Bool) (a : Act) (w : World), listed.size = ops.size → Down ops listed → k ≤ t → t ≤ ops.size → ops.size - t ≤ fuel →
  (∀ i, i < t → listed.getD i true = true) → (∀ i, t ≤ i → i < ops.size → listed.getD i true = false) → wpList P ops Q (ops.toList.drop t) a w → wpAny P .any ops Q fuel listed a w := by
 have hnone : ∀ (t : Nat) (listed : Array Bool), ops.size ≤ t → (∀ i, i < t → listed.getD i true = true) → Region.ready .any ops listed = [] := by
  intro t listed ht hl
  unfold Region.ready
  refine List.filter_eq_nil_iff.2 fun i hi => ?_
  simp [hl i (by have := List.mem_range.1 hi; omega)]
 intro fuel
 induction fuel with
 | zero =>
  intro t listed a w hs hd hk ht hf hl hu hw
  have ht2 : t = ops.size := by omega
  subst ht2
  rw [List.drop_of_length_le (by simp)] at hw
  exact ⟨hnone _ _ (Nat.le_refl _) hl, hw⟩
 | succ fuel ih =>
  intro t listed a w hs hd hk ht hf hl hu hw
  by_cases ht2 : t = ops.size
  ·subst ht2
   rw [List.drop_of_length_le (by simp)] at hw
   refine ⟨fun _ => hw, fun i hi => ?_⟩
   rw [hnone _ _ (Nat.le_refl _) hl] at hi
   simp at hi
  have htl : t < ops.size := by omega
  have hot : ops[t]? = some ops[t] := Array.getElem?_eq_getElem htl
  have hmem : t ∈ Region.ready .any ops listed := by
   refine List.mem_filter.2 ⟨List.mem_range.2 htl, ?_⟩
   rw [hu t (Nat.le_refl _) htl]
   simp only [Bool.not_false, Bool.true_and, hot, Option.map_some, Option.getD_some]
   refine Array.all_eq_true_iff_forall_mem.2 fun e he => ?_
   cases hb : Region.binds .any e with
   | false => simp
   | true =>
    have hlt := ok_edge hok hot he hb
    have h2 := hl e.on (by omega)
    rw [getD_both (by omega)] at h2
    simp [h2]
  refine ⟨fun hr => by rw [hr] at hmem; simp at hmem, fun i hi => ?_⟩
  obtain ⟨o, ho, hlt, hli, haft⟩ := ready_mem' hi
  have hit : i = t := by
   rcases Nat.lt_trichotomy i t with h | h | h
   ·rw [hl i h] at hli; cases hli
   ·exact h
   have := seq_all hq hd i (by omega) hlt o ho haft t h
   rw [← getD_both (by omega), hu t (Nat.le_refl _) htl] at this
   cases this
  subst hit
  have hdrop : ops.toList.drop i = ops[i] :: ops.toList.drop (i + 1) := by
   rw [List.drop_eq_getElem_cons (by simpa using htl)]; simp
  rw [hdrop] at hw
  have next : ∀ a w, wpList P ops Q (ops.toList.drop (i + 1)) a w → wpAny P .any ops Q fuel (listed.setIfInBounds i true) a w := by
   intro a w h
   refine ih (i + 1) _ a w (by simpa using hs) (down_set hd hs hlt ho haft) (by omega) (by omega) (by omega) ?_ ?_ h
   ·intro j hj
    rw [getD_set (by omega)]
    split
    ·rfl
    exact hl j (by omega)
   intro j hj hj2
   rw [getD_set (by omega), if_neg (by omega)]
   exact hu j (by omega) hj2
  have hoe : ops[i] = o := by rw [hot] at ho; exact Option.some.inj ho
  rw [hoe] at hw
  unfold wpList at hw
  unfold wpOp
  simp only [ho]
  split at hw
  ·rename_i hwt
   rw [if_pos hwt]
   rcases hw with hw | hw
   ·exact .inl (Oper.wp_mono next hw)
   exact .inr hw
  rename_i hwt
  rw [if_neg hwt]
  exact next _ _ hw
def KeepEnd (ops : Array Oper) (k : Nat) (a0 a : Act) : Prop := ∀ (j : Nat) (o : Oper) (t : Nat), k ≤ j → ops[j]? = some o → o.dst = some t → a.tmps[t]? = a0.tmps[t]?
theorem tail_any (hok : okOps ops a0.tmps.size = true) {k : Nat} (hq : okSeq ops k = true) (hkn : k < ops.size) (hTr : ∀ w, T w w) (hTt : ∀ a b c, T a b → T b c → T a c) (hVT : ∀ i v w w', V i v w → T w w' → V i v w')
  (hV0 : ∀ (i : Nat) (o : Oper), i < k → ops[i]? = some o → o.dst = Option.none → ∀ v w, V i v w → V i undef w)
  (htodo : TodoT P (ops.toList.take k).toArray ops V T a0 w1 0 (ops.toList.take k)) (hend : ∀ (listed : Array Bool) a w, (∀ i, i < k → listed.getD i true = true) → Inv ops V T a0 w1 listed a w → KeepEnd ops k a0 a → wpList P ops Q (ops.toList.drop k) a w) :
  ∀ (fuel : Nat) (listed : Array Bool) (a : Act) (w : World), listed.size = ops.size → (List.range ops.size).countP (fun j => !listed.getD j true) ≤ fuel → Down ops listed → (∀ i, k ≤ i → i < ops.size → listed.getD i true = false) → Inv ops V T a0 w1 listed a w → KeepEnd ops k a0 a → wpAny P .any ops Q fuel listed a w
 | 0, listed, a, w, hs, hc, hd, hu, hinv, hke => by
  have h0 : (List.range ops.size).countP (fun j => !listed.getD j true) = 0 := by omega
  have := List.countP_eq_zero.1 h0 k (List.mem_range.2 hkn)
  simp [hu k (Nat.le_refl _) hkn] at this
 | fuel + 1, listed, a, w, hs, hc, hd, hu, hinv, hke => by
  have hke2 : ∀ i (o : Oper), i < k → ops[i]? = some o → ∀ v, KeepEnd ops k a0 (a.put o.dst v) := by
   intro i o hik ho v j o' t hj ho' ht
   have h1 := hke j o' t hj ho' ht
   cases hdd : o.dst with
   | none => exact h1
   | some d =>
    have : d ≠ t := fun e => by have := ok_apart hok ho ho' hdd (e ▸ ht); omega
    simp only [Act.put]
    rw [Array.getElem?_setIfInBounds, if_neg this]
    exact h1
  refine ⟨fun hr => ?_, fun i hi => ?_⟩
  ·have := ready_all hok hs hr k hkn
   rw [hu k (Nat.le_refl _) hkn] at this
   cases this
  obtain ⟨o, ho, hlt, hl, haft⟩ := ready_mem' hi
  by_cases hik : i < k
  ·have hstep := todoT_at (ops.toList.take k) 0 i o htodo (by rw [List.getElem?_take, if_pos hik]; simpa using ho)
   have hkeep : ∀ (t : Nat), (∀ (i : Nat) (o : Oper), (ops.toList.take k).toArray[i]? = some o → o.dst ≠ some t) → a.tmps[t]? = a0.tmps[t]? := by
    intro t htt
    by_cases hex : ∃ (j : Nat) (o : Oper), k ≤ j ∧ ops[j]? = some o ∧ o.dst = some t
    ·obtain ⟨j, o', hj, ho', hdt⟩ := hex
     exact hke j o' t hj ho' hdt
    refine hinv.keep t fun j o' ho' e => ?_
    by_cases hjk : j < k
    ·refine htt j o' ?_ e
     simp only [List.getElem?_toArray, List.getElem?_take, if_pos hjk]
     simpa using ho'
    exact hex ⟨j, o', by omega, ho', e⟩
   have hstep := hstep a.eval w hinv.t (base_of a) (known_of hkeep _) (facts_of _ fun e he hb => hinv.vals _ (by have := ok_edge hok ho (by simpa using he) hb; omega) (by
    have h1 := haft e (by simpa using he) hb
    have h2 := ok_edge hok ho (by simpa using he) hb
    rw [getD_both (by omega)]; exact h1))
   rw [Nat.zero_add] at hstep
   have next : ∀ v w', V i v w' ∧ T w w' → wpAny P .any ops Q fuel (listed.setIfInBounds i true) (a.put o.dst v) w' := by
    intro v w' ⟨hv, ht⟩
    refine tail_any hok hq hkn hTr hTt hVT hV0 htodo hend fuel _ _ _ (by simpa using hs) ?_ (down_set hd hs hlt ho haft) ?_ (inv_put hok hTt hVT hinv ho v ht ?_) ?_
    ·have := count_set (n := ops.size) hlt hs hl
     omega
    ·intro j hj hj2
     rw [getD_set (by omega), if_neg (by omega)]
     exact hu j hj hj2
    ·cases hdd : o.dst with
     | none =>
      have : slotOf ops (a.put Option.none v).eval i = undef := by simp [slotOf, ho, hdd]
      rw [this]
      exact hV0 i o hik ho hdd v w' hv
     | some d =>
      have := slot_self hok hinv.size ho v (by rw [hdd]; intro h; cases h)
      rw [hdd] at this
      rw [this]; exact hv
    exact hke2 i o hik ho v
   unfold wpOp
   simp only [ho]
   cases hg : o.guard with
   | none =>
    rw [hg] at hstep
    rw [if_pos (by simp [Region.wanted, hg])]
    exact .inl (wp_of_ok hstep fun v w' h _ => next v w' h)
   | some jw =>
    obtain ⟨j, want⟩ := jw
    rw [hg] at hstep
    obtain ⟨b, hb, h1, h2⟩ := hstep
    obtain ⟨o', d, ho', hd'⟩ := ok_guard hok ho hg
    have hy : yielded ops a.tmps j = some b := by
     simp only [slotOf, ho', hd', Act.eval, Array.getD_eq_getD_getElem?] at hb
     simp only [yielded, ho', hd', Option.bind_some]
     cases hx : a.tmps[d]? with
     | none => rw [hx] at hb; simp [undef] at hb
     | some x => rw [hx] at hb; simp only [Option.getD_some] at hb; subst hb; rfl
    by_cases hbw : b = want
    ·rw [if_pos (by simp [Region.wanted, hg, hy, hbw])]
     exact .inl (wp_of_ok (h1 hbw) fun v w' h _ => next v w' h)
    rw [if_neg (by simp [Region.wanted, hg, hy, hbw])]
    exact next undef w ⟨h2 hbw, hTr w⟩
  have hall := seq_all hq hd i (by omega) hlt o ho haft
  have hik2 : i = k := by
   rcases Nat.lt_or_ge k i with h | h
   ·have := hall k h
    rw [← getD_both (by omega), hu k (Nat.le_refl _) hkn] at this
    cases this
   omega
  subst hik2
  have hall2 : ∀ j, j < i → listed.getD j true = true := fun j hj => by rw [getD_both (by omega)]; exact hall j hj
  have hw := seq_run hok hq (fuel + 1) i listed a w hs hd (Nat.le_refl _) (by omega) ?_ hall2 hu (hend listed a w hall2 hinv hke)
  ·exact hw.2 i hi
  have : ops.size - i ≤ (List.range ops.size).countP (fun j => !listed.getD j true) := by
   have h1 : (List.range' i (ops.size - i)).countP (fun j => !listed.getD j true) = ops.size - i := by
    rw [List.countP_eq_length.2]
    ·simp
    intro j hj
    rw [List.mem_range'_1] at hj
    simp [hu j hj.1 (by omega)]
   rw [← h1]
   have e : List.range ops.size = List.range' 0 i ++ List.range' i (ops.size - i) := by
    rw [List.range_eq_range', show List.range' i (ops.size - i) = List.range' (0 + 1 * i) (ops.size - i) by simp, List.range'_append]; congr 1; omega
   rw [e, List.countP_append]
   omega
  omega
end
theorem wp_region_tail {P : Program} {id : Nat} {ops : List Oper} {w0 : World} {a0 : Act} {Q : Exit → Act → World → Prop} (k : Nat) (L : List (Value → World → Prop)) {l1 l2 : List Oper} (h1 : ops.take k = l1) (h2 : ops.drop k = l2) (hm : P.follows .mixedOrders = true) (hok : okOps ops.toArray a0.tmps.size = true)
  (hq : okSeq ops.toArray k = true) (hkn : k < ops.length) (hds : (l1.all fun o => o.dst.isSome) = true) (hk : KeepAll L) (htodo : TodoT P l1.toArray ops.toArray (vList L) Stay a0 w0 0 l1)
  (hend : ∀ w, Stay w0 w → Rest (vList L) (fun _ a w => wpList P ops.toArray Q l2 a w) w 0 l1 a0) : (Code.region id ops.toArray true).wp P Q a0 w0 := by
 subst h1 h2
 refine wp_region_any hm ?_
 refine tail_any (V := vList L) (T := Stay) (a0 := a0) (w1 := w0.drew) (k := k) hok hq (by simpa using hkn) Stay.refl (fun _ _ _ h k => Stay.trans h k) (vList_keep hk.mem) (fun i o hi ho hd => by
  have hm : o ∈ ops.take k := by
   have : (ops.take k)[i]? = some o := by rw [List.getElem?_take, if_pos hi]; simpa using ho
   exact List.mem_of_getElem? this
  have := List.all_eq_true.1 hds o hm
  simp [hd] at this) (by simpa using TodoT.from' (fun _ h => h.undrew) _ 0 htodo) ?_ _ _ _ _ (by simp) ?_ ?_ ?_ ⟨Stay.refl _, rfl, rfl, fun _ _ => rfl, ?_⟩ (fun _ _ _ _ _ _ => rfl)
 ·intro listed a w hall hinv hke
  have h := rest_ends (ev := a.eval) (ops.take k) 0 a0 (fun i o ho => by
   have hi : i < (ops.take k).length := (List.getElem?_eq_some_iff.1 ho).1
   simp only [List.length_take] at hi
   have := hinv.vals i (by simp; omega) (hall i (by omega))
   rw [Nat.zero_add]
   rw [List.getElem?_take, if_pos (by omega)] at ho
   simpa [slotOf, ho] using this) (hend w hinv.t.undrew)
  have : ends a0 a.eval (ops.take k) = a := by
   have h1 := ends_defers a.eval (ops.take k) a0
   have h2 : (ends a0 a.eval (ops.take k)).tmps = a.tmps := by
    apply Array.ext_getElem?
    intro t
    rw [ends_get]
    split
    ·rename_i hc
     simp [Act.eval, hinv.size, hc.1]
    rename_i hc
    by_cases ht : t < a0.tmps.size
    ·by_cases hex : ∃ (j : Nat) (o : Oper), k ≤ j ∧ ops.toArray[j]? = some o ∧ o.dst = some t
     ·obtain ⟨j, o, hj, ho, hdt⟩ := hex
      exact (hke j o t hj ho hdt).symm
     refine (hinv.keep t fun i o ho e => ?_).symm
     by_cases hik : i < k
     ·refine hc ⟨ht, o, ?_, e⟩
      have : (ops.take k)[i]? = some o := by rw [List.getElem?_take, if_pos hik]; simpa using ho
      exact List.mem_of_getElem? this
     exact hex ⟨i, o, by omega, ho, e⟩
    rw [Array.getElem?_eq_none (by omega), Array.getElem?_eq_none (by rw [hinv.size]; omega)]
   cases hx : ends a0 a.eval (ops.take k) with
   | mk t d =>
    rw [hx] at h1 h2
    cases a with
    | mk t' d' =>
     have h3 := hinv.defers
     simp only at h1 h2 h3
     rw [h2, h1, ← h3]
  rw [this] at h
  simpa using h
 ·exact Nat.le_trans List.countP_le_length (by simp)
 ·intro i o ho hl
  rw [Array.getD_eq_getD_getElem?, Array.getElem?_replicate] at hl
  split at hl <;> cases hl
 ·intro i _ hi
  rw [Array.getD_eq_getD_getElem?, Array.getElem?_replicate, if_pos hi]; rfl
 intro i hi hl
 rw [Array.getD_eq_getD_getElem?, Array.getElem?_replicate, if_pos hi] at hl
 cases hl
theorem wp_tail {P : Program} {id : Nat} {ops : List Oper} {w0 : World} {a0 : Act} {Q : Exit → Act → World → Prop} (k : Nat) (L : List (Value → World → Prop)) {l1 l2 : List Oper}
  (htodo : TodoT P l1.toArray ops.toArray (vList L) Stay a0 w0 0 l1) (hend : ∀ w, Stay w0 w → Rest (vList L) (fun _ a w => wpList P ops.toArray Q l2 a w) w 0 l1 a0)
  (h1 : ops.take k = l1 := by simp only [List.take_succ_cons, List.take_zero]; rfl) (h2 : ops.drop k = l2 := by simp only [List.drop_succ_cons, List.drop_zero]; rfl) (hm : P.follows .mixedOrders = true := by kernel_rfl) (hok : okOps ops.toArray a0.tmps.size = true := by kernel_rfl)
  (hq : okSeq ops.toArray k = true := by kernel_rfl) (hkn : k < ops.length := by decide) (hds : (l1.all fun o => o.dst.isSome) = true := by rfl) (hk : KeepAll L := by exact kP) : (Code.region id ops.toArray true).wp P Q a0 w0 :=
 wp_region_tail k L h1 h2 hm hok hq hkn hds hk htodo hend
variable {P : Program}
theorem run_append_fresh {F : SP} {w : World} (t ty e : TypeId) (ht : P.underlying t = some (.slice e)) (hi : (P.info? e).map (fun i => (i.zero, i.size, i.bytes)) = some (some (.int .u8 0), 1, 1))
  (a0 : Option Addr) (h0 : (own e 1 (.slice a0 0 0) 0 [] * F).on w) (vx : Value) (m : List UInt8) (hm : IsBytes w vx m) (hb : m.length ≤ 140737488355328) :
  ∃ v' w', (Builtin.append_ #[t, t] ty #[.slice a0 0 0, vx]).run P w = .ok v' w' ∧ (own e 1 v' m.length (vbs m) * F).on w' ∧ Below w.heap.size w w' := by
 obtain ⟨i, hq, hz, hsize, hby⟩ := info_some hi
 obtain ⟨ad, c, rfl, hc1, hc2, hl, hn⟩ := hm
 cases ad with
 | none =>
  have hc0 := hn rfl
  subst hc0
  have hm0 : m = [] := by cases m with | nil => rfl | cons _ _ => simp at hc1
  subst hm0
  have hrow : w.ownsRow 0 e 1 (.slice a0 0 0) 0 [] := by
   obtain ⟨hx, hv⟩ := own_cases h0
   refine ⟨hx, ?_⟩
   rcases hv with hv | ⟨g, cap, cur, e1, e2, e3, e4, e5, e6⟩
   ·exact .inl hv
   exact .inr ⟨g, cap, cur, e1, Nat.zero_le _, on_blk_mul e6, e2, e3, e4, e5⟩
  exact ⟨_, w, run_append_owned_none (P := P) (w := w) 0 t ty e i 1 ht hq _ 0 [] hrow, by simpa using h0, Below.refl _ _⟩
 | some ad =>
  have hnews' : ∀ j u, (vbs m)[j]? = some u → w.cell? (ad.add j) = some u := by
   intro j u hu
   obtain ⟨b, off, e1, e2⟩ := hl j u hu
   cases e1
   have : (⟨b, off, .none⟩ : Addr).add j = ⟨b, off + j, .none⟩ := by unfold Addr.add; split <;> simp_all
   rw [this]; exact e2
  obtain ⟨hx, hv⟩ := own_cases h0
  rcases hv with ⟨hv, _⟩ | ⟨g, cap, cur, hv, e2, e3, e4, e5, e6⟩
  ·simp only [Value.slice.injEq] at hv
   obtain ⟨rfl, _, _⟩ := hv
   obtain ⟨v', w', r1, r2, r3, _⟩ := run_append_own (P := P) w w.heap.size t ty e i (.int .u8 0) 1 1 ht hq hz hsize hby rfl (by decide) _ 0 [] ⟨rfl, .inl ⟨rfl, rfl⟩⟩ ad m.length c (vbs m) (by simp) hnews' (vbs_one m) (by unfold maxLen; omega) (by omega) (Nat.le_refl _)
   have hbel : Below w.heap.size w w' := ⟨r3.os, r3.tape, r3.output, r3.size, fun k hk => r3.block k hk (by simp [Value.ownBlock])⟩
   refine ⟨v', w', r1, ?_, hbel⟩
   obtain ⟨y, hy, q⟩ := h0.right
   have hy' : y.sub (hpOf w') := fun k o ho => by
    have hk := hy k o ho
    exact (hbel.block k (Array.getElem?_eq_some_iff.1 hk).1).trans hk
   have e0 : 0 + m.length = m.length := by omega
   rw [e0, List.nil_append] at r2
   rcases r2.2 with ⟨rfl, hn⟩ | ⟨g, cap, cur, rfl, hb, hg, c1, c2, c3, c4⟩
   ·exact SP.on_mul.2 ⟨fun _ => Option.none, y, fun _ => .inl rfl, fun _ _ h => (nomatch h), hy', ⟨r2.1, .inl ⟨rfl, hn⟩⟩, q⟩
   refine SP.on_mul.2 ⟨fun k => if k = g then some (.cells cur e (0, 0)) else Option.none, y, ?_, ?_, hy', ⟨r2.1, .inr ⟨g, cap, cur, rfl, c1, c2, c3, c4, by simp⟩⟩, q⟩
   ·intro k
    by_cases hk : k = g
    ·right
     cases hyk : y k with
     | none => rfl
     | some o => have := (Array.getElem?_eq_some_iff.1 (hy k o hyk)).1; omega
    left; simp [hk]
   intro k o ho
   by_cases hk : k = g
   ·subst hk; simp at ho; subst ho; exact hg
   simp [hk] at ho
  simp only [Value.slice.injEq] at hv
  obtain ⟨rfl, _, rfl⟩ := hv
  by_cases hm0 : m.length = 0
  ·have hm1 : m = [] := List.length_eq_zero_iff.1 hm0
   subst hm1
   have hr := run_append_room (P := P) w t ty e i ht hq g 0 0 cur (on_blk_mul e6) ad 0 c [] (by simp) (fun j u hu => by simp at hu) (fun u hu => by simp at hu) (Nat.le_refl _) (by simp)
   have hcur : cur = #[] := by apply Array.eq_empty_of_size_eq_zero; simpa using e4
   subst hcur
   refine ⟨_, _, hr, ?_, ⟨rfl, rfl, rfl, by simp, fun k hk => ?_⟩⟩
   ·simpa using own_of_blk (n := 0) (cap := 0) (xs := []) (size := 1) (e6.setRow _) rfl (Nat.le_refl _) (Nat.zero_le _) (by simp) (by simp)
   by_cases hkg : k = g
   ·subst hkg
    rw [setRow_heap_same _ _ _ _ _ _ (on_blk_mul e6), on_blk_mul e6]
    simp
   exact setRow_other w g k _ hkg
  have hr := run_append_grow (P := P) w t ty e i (.int .u8 0) ht hq hz ⟨g, 0, .none⟩ 0 0 [] (by simp) (fun j u hu => by simp at hu) ad m.length c (vbs m) (by rw [hsize]; simp) hnews' (by omega) (by omega) (growslice_fits (by omega) (by rw [hby]; omega))
  have hge := grownCap_ge w (0 + m.length) 0 e
  have hle := grownCap_le_maxLen w (0 + m.length) 0 e (by unfold maxLen; omega)
  refine ⟨_, _, hr, ?_, (Below.refl _ _).drew.alloc (by simp) _⟩
  have e0 : 0 + m.length = m.length := by omega
  rw [e0] at hge hle ⊢
  refine own_of_blk (SP.on.alloc (w := w.drew) e6.right.drew _) (by simp) hge hle ?_ ?_
  ·simp only [Array.size_append, List.size_toArray, size_zeroCells, Value.cells]
   simp
   omega
  simp only [Array.toList_append]
  simp
theorem OpOk.append {o : Oper} {ev : Operand → Value} {W W' : World} {R : Value → World → Prop} {x y : Operand} {t : TypeId} {vs vx v' : Value} (ho : o.op = .call { callee := .builtin .append, args := #[x, y], argTypes := #[t, t] })
  (hs : ev x = vs) (hx : ev y = vx) (hr : (Builtin.append_ #[t, t] o.type #[vs, vx]).run P W = .ok v' W') (h : R v' W') : OpOk P o ev W R :=
 OpOk.run (v := v') (W' := W') (by simp only [execOp, ho, resolve, invoke, builtin, Sem.run_bind, Sem.run_pure, Result.andThen_ok, List.map_toArray, List.map_cons, List.map_nil, hs, hx, hr]) h
theorem results_cell_row_tmp {fn : Func} {p u : Tmp} {ty : TypeId} (h : fn.results = #[.cell p ty, .tmp u]) (tmps : Array Value) (w : World) (g : Nat) (t : TypeId) (cs : Array Value) (fr : Nat × Nat) (d : TypeDesc)
  (hp : tmps.getD p undef = .pointer (some ⟨g, 0, .none⟩)) (hg : w.heap[g]? = some (.cells cs t fr))
  (hu : P.underlying ty = some d) (hd : (match d with | .struct _ | .array _ _ => true | _ => false) = true) (hi : (P.info? ty).map (·.size) = some cs.size) (x : Value) (hx : tmps.getD u undef = x) :
  (results fn tmps).run P w = .ok (.tuple #[.agg cs, x]) w := by
 have hp' : tmps[p]?.getD undef = .pointer (some ⟨g, 0, .none⟩) := by simpa using hp
 have hx' : tmps[u]?.getD undef = x := by simpa using hx
 simp [results, h, hp', hx', asAddr, run_loadVar_row w g t ty cs fr d hg hu hd hi]
theorem rT {P : Program} {fn : Func} {p q : Tmp} {ty : TypeId} {a : Act} {W : World} {g : Nat} {v cur : Array Value} {t : TypeId} {d : TypeDesc} {Q : Ending → World → Prop} (h : fn.results = #[.cell p ty, .tmp q]) (gR : W.heap[g]? = some (.cells cur t (0, 0))) (hu : P.underlying ty = some d) (hi : (P.info? ty).map (·.size) = some v.size) (u : Value) (hQ : Q (.returned (.tuple #[.agg v, u])) (W.setRow g v))
  (hd : (match d with | .struct _ | .array _ _ => true | _ => false) = true := by rfl) (hp : a.tmps.getD p undef = .pointer (some ⟨g, 0, Option.none⟩) := by rfl) (hq : a.tmps.getD q undef = u := by rfl) (hdf : a.defers = [] := by rfl) : bodyPost P fn Q .ret a (W.setRow g v) :=
 bodyPost_ret (v := .tuple #[.agg v, u]) (results_cell_row_tmp h _ _ g _ v (0, 0) d hp (setRow_heap_same _ _ _ _ _ _ gR) hu hd hi u hq) hdf hQ
theorem SP.on.drewN {Q : SP} {w : World} (h : Q.on w) (n : Nat) : Q.on (w.drewN n) := SP.on_of_heap h rfl
theorem Str.drewN {a b : World} (h : Str a b) (n : Nat) : Str a (b.drewN n) := ⟨h.os, h.tape, h.output, h.size⟩
theorem retT {P : Program} {fn : Func} {p q : Tmp} {ty : TypeId} {a : Act} {W w0 : World} {B g : Nat} {v cur : Array Value} {t : TypeId} {d : TypeDesc} {E : Ending} (h : fn.results = #[.cell p ty, .tmp q]) (gR : W.heap[g]? = some (.cells cur t (0, 0))) (hu : P.underlying ty = some d) (hi : (P.info? ty).map (·.size) = some v.size)
  (hd : (match d with | .struct _ | .array _ _ => true | _ => false) = true) (u : Value) (he : .returned (.tuple #[.agg v, u]) = E) (HB : Below B w0 W) (hBg : B ≤ g) (hp : a.tmps.getD p undef = .pointer (some ⟨g, 0, Option.none⟩) := by rfl) (hq : a.tmps.getD q undef = u := by rfl) (hdf : a.defers = [] := by rfl) : bodyPost P fn (fun e w' => e = E ∧ Below B w0 w') .ret a (W.setRow g v) :=
 bodyPost_ret (v := .tuple #[.agg v, u]) (results_cell_row_tmp h _ _ g _ v (0, 0) d hp (setRow_heap_same _ _ _ _ _ _ gR) hu hd hi u hq) hdf ⟨he, HB.trans ⟨rfl, rfl, rfl, by simp [World.setRow], fun k hk => setRow_other W g k v (by omega)⟩⟩
variable {P : Program}
theorem OpOk.load_row {o : Oper} {ev : Operand → Value} {W : World} {R : Value → World → Prop} (ty : TypeId) (x : Operand) (ho : o.op = .load ty x)
  (g : Nat) (hx : ev x = .pointer (some ⟨g, 0, .none⟩)) (t : TypeId) (cs : Array Value) (fr : Nat × Nat) (d : TypeDesc) (hg : W.heap[g]? = some (.cells cs t fr))
  (hu : P.underlying ty = some d) (hd : (match d with | .struct _ | .array _ _ => true | _ => false) = true) (hi : (P.info? ty).map (·.size) = some cs.size)
  (h : R (.agg cs) W) : OpOk P o ev W R :=
 OpOk.run (v := .agg cs) (W' := W) (by
  unfold execOp
  simp only [ho, hx, Instr.loadAt, Instr.sureAddr, Sem.run_bind, Sem.run_pure, Result.andThen_ok, run_loadVar_row W g t ty cs fr d hg hu hd hi, Sem.run_pure, Result.andThen_ok]) h
theorem OpOk.l {o : Oper} {ev : Operand → Value} {W : World} {ty : TypeId} {x : Operand} {g : Nat} {t : TypeId} {cs : Array Value} {fr : Nat × Nat} {d : TypeDesc} (hx : ev x = .pointer (some ⟨g, 0, Option.none⟩)) (hg : W.heap[g]? = some (.cells cs t fr))
  (hu : P.underlying ty = some d) (hi : (P.info? ty).map (·.size) = some cs.size) (ho : o.op = .load ty x := by rfl) (hd : (match d with | .struct _ | .array _ _ => true | _ => false) = true := by rfl) : OpOk P o ev W (fun u X => isV (.agg cs) u X ∧ Stay W X) :=
 OpOk.load_row ty x ho g hx t cs fr d hg hu hd hi ⟨rfl, Stay.refl _⟩
variable {P : Program}
theorem run_loadVar_part (w : World) (g off : Nat) (ty : TypeId) (cs : Array Value) (d : TypeDesc) (hc : ∀ j v, cs[j]? = some v → w.cell? ⟨g, off + j, .none⟩ = some v)
  (hu : P.underlying ty = some d) (hd : (match d with | .struct _ | .array _ _ => true | _ => false) = true) (hi : (P.info? ty).map (·.size) = some cs.size) :
  (loadVar ty ⟨g, off, .none⟩).run P w = .ok (.agg cs) w := by
 have hl : (loadCells ⟨g, off, .none⟩ cs.toList.length).run P w = .ok cs.toList.toArray w :=
  run_loadCells_list (P := P) w ⟨g, off, .none⟩ cs.toList (fun j v hv => by
   have hadd : (⟨g, off, .none⟩ : Addr).add j = ⟨g, off + j, .none⟩ := by unfold Addr.add; split <;> simp_all
   rw [hadd]
   exact hc j v (by simpa using hv))
 cases hq : P.info? ty with
 | none => simp [hq] at hi
 | some i =>
  have hs : i.size = cs.size := by simpa [hq] using hi
  have hagg : (isAgg ty).run P w = .ok true w := by
   unfold isAgg
   rw [Sem.run_bind, run_underlying hu w]
   cases d <;> simp_all
  simp only [Array.length_toList, Array.toArray_toList] at hl
  simp [loadVar, Sem.run_bind, hagg, sizeOf, typeInfo, hq, hs, hl]
theorem wpList_load_part {ops : Array Oper} {rest : List Oper} {o : Oper} {a : Act} {w : World} {Q : Exit → Act → World → Prop} (hgd : o.guard = Option.none) (ty : TypeId) (x : Operand) (ho : o.op = .load ty x)
  (g off : Nat) (hx : a.eval x = .pointer (some ⟨g, off, .none⟩)) (cs : Array Value) (d : TypeDesc) (hc : ∀ j v, cs[j]? = some v → w.cell? ⟨g, off + j, .none⟩ = some v)
  (hu : P.underlying ty = some d) (hd : (match d with | .struct _ | .array _ _ => true | _ => false) = true) (hi : (P.info? ty).map (·.size) = some cs.size)
  (h : wpList P ops Q rest (a.put o.dst (.agg cs)) w) : wpList P ops Q (o :: rest) a w :=
 wpList_plain hgd fun _ hK => by
  unfold Oper.wp execOp
  simp only [ho, hx, Instr.loadAt, Instr.sureAddr, Sem.run_bind, Sem.run_pure, Result.andThen_ok, run_loadVar_part w g off ty cs d hc hu hd hi]
  exact hK _ _ h
theorem OpOk.load_part {o : Oper} {ev : Operand → Value} {W : World} {R : Value → World → Prop} (ty : TypeId) (x : Operand) (ho : o.op = .load ty x)
  (g off : Nat) (hx : ev x = .pointer (some ⟨g, off, .none⟩)) (cs : Array Value) (d : TypeDesc) (hc : ∀ j v, cs[j]? = some v → W.cell? ⟨g, off + j, .none⟩ = some v)
  (hu : P.underlying ty = some d) (hd : (match d with | .struct _ | .array _ _ => true | _ => false) = true) (hi : (P.info? ty).map (·.size) = some cs.size)
  (h : R (.agg cs) W) : OpOk P o ev W R := by
 unfold OpOk execOp
 simp only [ho, hx, Instr.loadAt, Instr.sureAddr, Sem.run_bind, Sem.run_pure, Result.andThen_ok, run_loadVar_part W g off ty cs d hc hu hd hi]
 exact h
theorem cell_of_blk {F : SP} {w : World} {b : Nat} {cs : Array Value} {t : TypeId} (h : (blk b (.cells cs t (0, 0)) * F).on w) (i : Nat) {v : Value} (hv : cs[i]? = some v) : w.cell? ⟨b, i, .none⟩ = some v := by
 rw [cell_of_row _ _ _ _ _ _ (on_blk_mul h)]
 exact hv
theorem run_index_one (w : World) (t e : TypeId) (n : Nat) (cs : Array Value) (i : Nat) (v : Value) (k : IntKind) (ht : P.underlying t = some (.array n e)) (he : P.underlying e = some (.int k)) (hs : (P.info? e).map (·.size) = some 1) (hi : i < n) (hv : cs[i]? = some v) :
  (Instr.index t (.agg cs) (.int .i64 (i : Int))).run P w = .ok v w := by
 have hb : (0 : Int) ≤ (i : Int) ∧ (i : Int) < (n : Int) := by omega
 cases hq : P.info? e with
 | none => simp [hq] at hs
 | some inf =>
  have h1 : inf.size = 1 := by simpa [hq] using hs
  have hagg : (isAgg e).run P w = .ok false w := by
   unfold isAgg
   rw [Sem.run_bind, run_underlying he w]
   simp
  simp [Instr.index, run_underlying ht, asIntOf, hb, go_sem, part, sizeOf, typeInfo, hq, h1, hagg, hv]
  intro h
  omega
theorem OpOk.lp {o : Oper} {ev : Operand → Value} {W : World} {ty : TypeId} {x : Operand} {g off : Nat} {cs : Array Value} {d : TypeDesc} (hx : ev x = .pointer (some ⟨g, off, Option.none⟩)) (hc : ∀ j v, cs[j]? = some v → W.cell? ⟨g, off + j, Option.none⟩ = some v)
  (hu : P.underlying ty = some d) (hi : (P.info? ty).map (·.size) = some cs.size) (ho : o.op = .load ty x := by rfl) (hd : (match d with | .struct _ | .array _ _ => true | _ => false) = true := by rfl) : OpOk P o ev W (fun u X => isV (.agg cs) u X ∧ Stay W X) :=
 OpOk.load_part ty x ho g off hx cs d hc hu hd hi ⟨rfl, Stay.refl _⟩
end Go.Proofs.YtjdebgbiockafaaGreatDoor
namespace Go.Proofs.YtjdebgbiockafaaGreatDoor
open Go.ChangeShapes Go.WideShapes Go.ChangeAt Go.RowKit
variable {H : Type} {enc : TypeId × Value → H} {P : Program} {w : World} {base : Nat} {spare : Nat → Bool} {held : Bool}
theorem wf_u8 {n : Int} (h : (Lit.int .u8 n).wf = true) : 0 ≤ n ∧ n ≤ 255 := by
 simpa [Lit.wf, IntKind.min, IntKind.max, IntKind.bits, IntKind.signed] using h
theorem wf_u32 {n : Int} (h : (Lit.int .u32 n).wf = true) : 0 ≤ n ∧ n ≤ 4294967295 := by
 simpa [Lit.wf, IntKind.min, IntKind.max, IntKind.bits, IntKind.signed] using h
end Go.Proofs.YtjdebgbiockafaaGreatDoor
namespace Go.Proofs.YtjdebgbiockafaaGreatDoor
open Go.RowKit
def two (V V' : Nat → Value → World → Prop) (ph : Bool) : Nat → Value → World → Prop := if ph then V' else V
section
variable {P : Program} {n : Nat} {ops : Array Oper} {V V' : Nat → Value → World → Prop} {s : Nat} {a0 : Act} {w1 : World} {Q : Exit → Act → World → Prop}
end
theorem vTwo_keep {L : List (Value → World → Prop)} (h : KeepAll L) : ∀ i v w w', vList L i v w → Stay w w' → vList L i v w' := vList_keep h.mem
section
variable {P : Program} {n : Nat} {ops : Array Oper} {V V' : Nat → Value → World → Prop} {s : Nat} {a0 : Act} {I : Bool → World → Prop} {Q : Exit → Act → World → Prop}
end
end Go.Proofs.YtjdebgbiockafaaGreatDoor
namespace Go.Proofs.YtjdebgbiockafaaGreatDoor
namespace AppK
open Go.RowKit
def needs (ops : Array Oper) : Nat → Nat → Nat → Bool
 | 0, _, _ => false
 | n + 1, s, i => waits ops s i || (List.range ops.size).any fun j => waits ops s j && needs ops n j i
theorem needs_listed {ops : Array Oper} {listed : Array Bool} (hd : Down ops listed) : ∀ (n s i : Nat), needs ops n s i = true → listed.getD s false = true → listed.getD i false = true
 | 0, _, _, h, _ => by cases h
 | n + 1, s, i, h, hs => by
  have step : ∀ j, waits ops s j = true → listed.getD j false = true := fun j hw => by
   obtain ⟨o, ho, e, he, hb, hon⟩ := waits_edge hw
   have := hd s o ho hs e he hb
   rw [hon] at this
   exact this
  simp only [needs, Bool.or_eq_true, List.any_eq_true, Bool.and_eq_true] at h
  rcases h with h | ⟨j, _, h1, h2⟩
  ·exact step i h
  exact needs_listed hd n j i h2 (step j h1)
def allWait (ops : Array Oper) (x : Operand) (i : Nat) : Bool := match x with
 | .tmp t => (List.range ops.size).all fun j => match ops[j]? with
  | some o => !(o.dst == some t) || needs ops 9 j i
  | Option.none => true
 | _ => true
def knownAt (ops : Array Oper) (a0 : Act) (ev : Operand → Value) (i : Nat) : List Operand → Prop
 | [] => True
 | x :: xs => (if allWait ops x i = true then ev x = a0.eval x else True) ∧ knownAt ops a0 ev i xs
theorem known_at {ops : Array Oper} {a0 a : Act} {listed : Array Bool} (hd : Down ops listed) {i : Nat} (hl : listed.getD i false = false)
  (h : ∀ (t : Nat), (∀ (i : Nat) (o : Oper), ops[i]? = some o → listed.getD i false = true → o.dst ≠ some t) → a.tmps[t]? = a0.tmps[t]?) : ∀ xs, knownAt ops a0 a.eval i xs
 | [] => trivial
 | x :: xs => by
  refine ⟨?_, known_at hd hl h xs⟩
  split
  ·rename_i hw
   cases x with
   | tmp t =>
    have : a.tmps[t]? = a0.tmps[t]? := h t (fun j o ho hj e => by
     have hm := List.all_eq_true.1 hw j (List.mem_range.2 (Array.getElem?_eq_some_iff.1 ho).1)
     rw [ho] at hm
     simp only [e, BEq.rfl, Bool.not_true, Bool.false_or] at hm
     have := needs_listed hd 9 j i hm hj
     rw [hl] at this
     cases this)
    simp [Act.eval, Array.getD_eq_getD_getElem?, this]
   | const c => rfl
   | global g => rfl
   | func f => rfl
  trivial
theorem put_restK {ops : Array Oper} {a0 : Act} {listed : Array Bool} {i : Nat} {o : Oper} {a : Act} {v : Value} (hi : i < listed.size) (ho : ops[i]? = some o) (hd : a.defers = a0.defers) (hs : a.tmps.size = a0.tmps.size)
  (hk : ∀ (t : Nat), (∀ (i : Nat) (o : Oper), ops[i]? = some o → listed.getD i false = true → o.dst ≠ some t) → a.tmps[t]? = a0.tmps[t]?) :
  (a.put o.dst v).defers = a0.defers ∧ (a.put o.dst v).tmps.size = a0.tmps.size ∧ ∀ (t : Nat), (∀ (j : Nat) (o : Oper), ops[j]? = some o → (listed.setIfInBounds i true).getD j false = true → o.dst ≠ some t) → (a.put o.dst v).tmps[t]? = a0.tmps[t]? := by
 refine ⟨?_, ?_, ?_⟩
 ·cases h : o.dst <;> simp [Act.put, hd]
 ·cases h : o.dst <;> simp [Act.put, hs]
 intro t htt
 have hold : a.tmps[t]? = a0.tmps[t]? := hk t fun j o' ho' hj => htt j o' ho' (by rw [getD_set' hi]; split <;> simp [hj])
 cases h : o.dst with
 | none => exact hold
 | some d =>
  have : d ≠ t := fun e => htt i o ho (by rw [getD_set' hi, if_pos rfl]) (by rw [h, e])
  simp only [Act.put]
  rw [Array.getElem?_setIfInBounds, if_neg this]
  exact hold
section
variable {P : Program} {n : Nat} {ops : Array Oper} {V V' : Nat → Value → World → Prop} {s : Nat} {a0 : Act} {I : Bool → World → Prop} {Q : Exit → Act → World → Prop}
def TodoA (P : Program) (ops : Array Oper) (V V' : Nat → Value → World → Prop) (s : Nat) (a0 : Act) (I : Bool → World → Prop) : Nat → List Oper → Prop
 | _, [] => True
 | i, o :: rest => (i ≠ s → ∀ (ph : Bool), (waits ops i s = true → ph = true) → (needs ops 9 s i = true → ph = false) → ∀ (ev : Operand → Value) (w : World), I ph w → Base ev → knownAt ops a0 ev i o.op.operands.toList → factsOf ops (two V V' ph) ev w o.after.toList →
   match o.guard with
   | Option.none => OpOk P o ev w (fun v w' => two V V' ph i v w' ∧ Stay w w')
   | some (j, want) => ∃ b, slotOf ops ev j = .bool b ∧ (b = want → OpOk P o ev w (fun v w' => two V V' ph i v w' ∧ Stay w w')) ∧ (b ≠ want → two V V' ph i undef w)) ∧ TodoA P ops V V' s a0 I (i + 1) rest
theorem todoA_at : ∀ (l : List Oper) (k i : Nat) (o : Oper), TodoA P ops V V' s a0 I k l → l[i]? = some o →
  (k + i ≠ s → ∀ (ph : Bool), (waits ops (k + i) s = true → ph = true) → (needs ops 9 s (k + i) = true → ph = false) → ∀ (ev : Operand → Value) (w : World), I ph w → Base ev → knownAt ops a0 ev (k + i) o.op.operands.toList → factsOf ops (two V V' ph) ev w o.after.toList →
   match o.guard with
   | Option.none => OpOk P o ev w (fun v w' => two V V' ph (k + i) v w' ∧ Stay w w')
   | some (j, want) => ∃ b, slotOf ops ev j = .bool b ∧ (b = want → OpOk P o ev w (fun v w' => two V V' ph (k + i) v w' ∧ Stay w w')) ∧ (b ≠ want → two V V' ph (k + i) undef w))
 | [], _, _, _, _, h => by simp at h
 | x :: l, k, 0, o, h, e => by simp at e; subst e; exact h.1
 | x :: l, k, i + 1, o, h, e => by
  have := todoA_at l (k + 1) i o h.2 (by simpa using e)
  rw [show k + (i + 1) = k + 1 + i by omega]
  exact this
def AppOk (P : Program) (ops : Array Oper) (V V' : Nat → Value → World → Prop) (s : Nat) (a0 : Act) (I : Bool → World → Prop) (o : Oper) : Prop :=
 ∀ (ev : Operand → Value) (w : World), I false w → Base ev → knownAt ops a0 ev s o.op.operands.toList → factsOf ops V ev w o.after.toList →
  OpOk P o ev w (fun v w' => I true w' ∧ V' s v w' ∧ ∀ i, i ≠ s → V i (slotOf ops ev i) w → V' i (slotOf ops ev i) w')
structure InvA (ops : Array Oper) (V V' : Nat → Value → World → Prop) (s : Nat) (a0 : Act) (I : Bool → World → Prop) (listed : Array Bool) (a : Act) (w : World) : Prop where
 t : I (listed.getD s false) w
 defers : a.defers = a0.defers
 size : a.tmps.size = a0.tmps.size
 keep : ∀ (t : Nat), (∀ (i : Nat) (o : Oper), ops[i]? = some o → listed.getD i false = true → o.dst ≠ some t) → a.tmps[t]? = a0.tmps[t]?
 vals : ∀ i, i < ops.size → listed.getD i true = true → two V V' (listed.getD s false) i (slotOf ops a.eval i) w
theorem app_any (hok : okOps ops a0.tmps.size = true) (hVT : ∀ i v w w', V i v w → Stay w w' → V i v w') (hVT' : ∀ i v w w', V' i v w → Stay w w' → V' i v w') (hIT : ∀ ph w w', I ph w → Stay w w' → I ph w')
  (os : Oper) (hos : ops[s]? = some os) (hsg : os.guard = Option.none) (hds : ∀ (i : Nat) (o : Oper), ops[i]? = some o → o.dst.isSome = true)
  (hst : AppOk P ops V V' s a0 I os)
  (htodo : TodoA P ops V V' s a0 I 0 ops.toList) (hend : ∀ (listed : Array Bool) a w, (∀ i, i < ops.size → listed.getD i true = true) → listed.size = ops.size → InvA ops V V' s a0 I listed a w → Q .normal a w) :
  ∀ (fuel : Nat) (listed : Array Bool) (a : Act) (w : World), listed.size = ops.size → (List.range ops.size).countP (fun j => !listed.getD j true) ≤ fuel → Down ops listed → InvA ops V V' s a0 I listed a w → wpAny P .any ops Q fuel listed a w
 | 0, listed, a, w, hs, hc, hd, hinv => by
  have hall : ∀ i, i < ops.size → listed.getD i true = true := by
   intro i hi
   have h0 : (List.range ops.size).countP (fun j => !listed.getD j true) = 0 := by omega
   have := List.countP_eq_zero.1 h0 i (List.mem_range.2 hi)
   simpa using this
  refine ⟨?_, hend listed a w hall hs hinv⟩
  unfold Region.ready
  refine List.filter_eq_nil_iff.2 fun i hi => ?_
  simp [hall i (List.mem_range.1 hi)]
 | fuel + 1, listed, a, w, hs, hc, hdn, hinv => by
  refine ⟨fun hr => hend listed a w (ready_all hok hs hr) hs hinv, fun i hi => ?_⟩
  obtain ⟨o, ho, hlt, hl, haft⟩ := ready_mem' hi
  have hss : s < ops.size := (Array.getElem?_eq_some_iff.1 hos).1
  have hcnt : (List.range ops.size).countP (fun j => !(listed.setIfInBounds i true).getD j true) ≤ fuel := by
   have := count_set (n := ops.size) hlt hs hl
   omega
  by_cases his : i = s
  ·rw [his] at ho hlt hl hcnt ⊢
   clear his hi
   have hoo : o = os := by rw [ho] at hos; exact Option.some.inj hos
   rw [hoo] at ho haft
   clear hoo
   have hlf : listed.getD s false = false := by rw [← getD_both (by omega)]; exact hl
   have hvals := hinv.vals
   rw [hlf] at hvals
   have hfac : factsOf ops V a.eval w os.after.toList := facts_of _ fun e he hb => by
    have h1 := haft e (by simpa using he) hb
    have h2 := ok_edge hok ho (by simpa using he) hb
    exact hvals e.on (by omega) (by rw [getD_both (by omega)]; exact h1)
   have hit := hinv.t
   rw [hlf] at hit
   have hstep := hst a.eval w hit (base_of a) (known_at hdn hlf hinv.keep _) hfac
   unfold wpOp
   simp only [ho, hsg]
   rw [if_pos (by simp [Region.wanted, hsg])]
   refine .inl (wp_of_ok hstep fun v w' h _ => ?_)
   obtain ⟨h1, hv, h2⟩ := h
   obtain ⟨p1, p2, p3⟩ := put_restK (v := v) (by omega) ho hinv.defers hinv.size hinv.keep
   refine app_any hok hVT hVT' hIT os hos hsg hds hst htodo hend fuel _ _ _ (by simpa using hs) hcnt (down_set hdn hs hlt ho haft) ⟨by rw [getD_set' (by omega), if_pos rfl]; exact h1, p1, p2, p3, ?_⟩
   intro j hj hlj
   have hsl : (listed.setIfInBounds s true).getD s false = true := by rw [getD_set' (by omega), if_pos rfl]
   rw [hsl]
   by_cases hjs : j = s
   ·rw [hjs]
    obtain ⟨d, hd⟩ := Option.isSome_iff_exists.1 (hds s os ho)
    have := slot_self hok hinv.size ho v (by rw [hd]; intro h; cases h)
    rw [this]; exact hv
   rw [getD_set (by omega), if_neg hjs] at hlj
   rw [slot_put hok hinv.size ho v hjs]
   exact h2 j hjs (hvals j hj hlj)
  have hset : (listed.setIfInBounds i true).getD s false = listed.getD s false := by rw [getD_set' (by omega), if_neg (fun e => his e.symm)]
  have hstep := todoA_at ops.toList 0 i o htodo (by simpa using ho)
  rw [Nat.zero_add] at hstep
  have hstep := hstep his (listed.getD s false) (fun hw => by
   obtain ⟨o', ho', e, he, hb, hon⟩ := waits_edge hw
   rw [ho] at ho'; cases ho'
   have := haft e he hb
   rwa [hon] at this) (fun hw => by
   cases hq : listed.getD s false with
   | false => rfl
   | true =>
    have := needs_listed hdn 9 s i hw hq
    rw [← getD_both (by omega), hl] at this
    cases this) a.eval w hinv.t (base_of a) (known_at hdn (by rw [← getD_both (by omega)]; exact hl) hinv.keep _) (facts_of _ fun e he hb => by
     have h1 := haft e (by simpa using he) hb
     have h2 := ok_edge hok ho (by simpa using he) hb
     exact hinv.vals e.on (by omega) (by rw [getD_both (by omega)]; exact h1))
  have next : ∀ v w', two V V' (listed.getD s false) i v w' ∧ Stay w w' → wpAny P .any ops Q fuel (listed.setIfInBounds i true) (a.put o.dst v) w' := by
   intro v w' ⟨hv, ht⟩
   obtain ⟨p1, p2, p3⟩ := put_restK (v := v) (by omega) ho hinv.defers hinv.size hinv.keep
   refine app_any hok hVT hVT' hIT os hos hsg hds hst htodo hend fuel _ _ _ (by simpa using hs) hcnt (down_set hdn hs hlt ho haft) ⟨by rw [hset]; exact hIT _ _ _ hinv.t ht, p1, p2, p3, ?_⟩
   intro j hj hlj
   rw [hset]
   by_cases hji : j = i
   ·rw [hji]
    obtain ⟨d, hd⟩ := Option.isSome_iff_exists.1 (hds i o ho)
    have := slot_self hok hinv.size ho v (by rw [hd]; intro h; cases h)
    rw [this]; exact hv
   rw [slot_put hok hinv.size ho v hji]
   rw [getD_set (by omega), if_neg hji] at hlj
   have h0 := hinv.vals j hj hlj
   cases hq : listed.getD s false with
   | false => rw [hq] at h0; exact hVT _ _ _ _ h0 ht
   | true => rw [hq] at h0; exact hVT' _ _ _ _ h0 ht
  unfold wpOp
  simp only [ho]
  cases hg : o.guard with
  | none =>
   rw [hg] at hstep
   rw [if_pos (by simp [Region.wanted, hg])]
   exact .inl (wp_of_ok hstep fun v w' h _ => next v w' h)
  | some jw =>
   obtain ⟨j, want⟩ := jw
   rw [hg] at hstep
   obtain ⟨b, hb, h1, h2⟩ := hstep
   obtain ⟨o', d, ho', hd'⟩ := ok_guard hok ho hg
   have hy : yielded ops a.tmps j = some b := by
    simp only [slotOf, ho', hd', Act.eval, Array.getD_eq_getD_getElem?] at hb
    simp only [yielded, ho', hd', Option.bind_some]
    cases hx : a.tmps[d]? with
    | none => rw [hx] at hb; simp [undef] at hb
    | some x => rw [hx] at hb; simp only [Option.getD_some] at hb; subst hb; rfl
   by_cases hbw : b = want
   ·rw [if_pos (by simp [Region.wanted, hg, hy, hbw])]
    exact .inl (wp_of_ok (h1 hbw) fun v w' h _ => next v w' h)
   rw [if_neg (by simp [Region.wanted, hg, hy, hbw])]
   exact next undef w ⟨h2 hbw, Stay.refl w⟩
end
theorem wp_region_app {P : Program} {id : Nat} {l : List Oper} {w0 : World} {a0 : Act} {Q : Exit → Act → World → Prop} (s : Nat) (L L' : List (Value → World → Prop)) (os : Oper) (hos : l[s]? = some os) (hm : P.follows .mixedOrders = true) (hok : okOps l.toArray a0.tmps.size = true)
  (hsg : os.guard = Option.none) (hds : ((List.range l.length).all fun i => ((l[i]?).bind (·.dst)).isSome) = true) (I : Bool → World → Prop) (hI0 : I false w0.drew) (hIT : ∀ ph w w', I ph w → Stay w w' → I ph w') (hk : KeepAll L) (hk' : KeepAll L')
  (hst : AppOk P l.toArray (vList L) (vList L') s a0 I os) (htodo : TodoA P l.toArray (vList L) (vList L') s a0 I 0 l)
  (hend : ∀ w, I true w → Rest (vList L') Q w 0 l a0) : (Code.region id l.toArray true).wp P Q a0 w0 := by
 refine wp_region_any hm ?_
 refine app_any (V := vList L) (V' := vList L') (s := s) (a0 := a0) (I := I) hok (vTwo_keep hk) (vTwo_keep hk') hIT os (by simpa using hos) hsg ?_ hst (by simpa using htodo) ?_ _ _ _ _ (by simp) ?_ ?_ ⟨by rw [show (Array.replicate l.toArray.size false).getD s false = false from by rw [Array.getD_eq_getD_getElem?, Array.getElem?_replicate]; split <;> rfl]; exact hI0, rfl, rfl, fun _ _ => rfl, ?_⟩
 ·intro i o ho
  have hi : i < l.length := by simpa using (Array.getElem?_eq_some_iff.1 ho).1
  have := List.all_eq_true.1 hds i (List.mem_range.2 hi)
  have ho' : l[i]? = some o := by simpa using ho
  simpa [ho'] using this
 ·intro listed a w hall hsz hinv
  have hs : s < l.length := (List.getElem?_eq_some_iff.1 hos).1
  have hls : listed.getD s false = true := by rw [← getD_both (by simpa [hsz] using hs)]; exact hall s (by simpa using hs)
  have hv := hinv.vals
  rw [hls] at hv
  have h := rest_ends (ev := a.eval) l 0 a0 (fun i o ho => by
   have hi : i < l.length := (List.getElem?_eq_some_iff.1 ho).1
   rw [Nat.zero_add]
   have := hv i (by simpa using hi) (hall i (by simpa using hi))
   simpa [slotOf, ho, two] using this) (hend w (by have h9 := hinv.t; rw [hls] at h9; exact h9))
  have : ends a0 a.eval l = a := by
   have h1 := ends_defers a.eval l a0
   have h2 : (ends a0 a.eval l).tmps = a.tmps := by
    apply Array.ext_getElem?
    intro t
    rw [ends_get]
    split
    ·rename_i hc
     simp [Act.eval, hinv.size, hc.1]
    rename_i hc
    by_cases ht : t < a0.tmps.size
    ·refine (hinv.keep t fun i o ho _ e => hc ⟨ht, o, ?_, e⟩).symm
     have : l[i]? = some o := by simpa using ho
     exact List.mem_of_getElem? this
    rw [Array.getElem?_eq_none (by omega), Array.getElem?_eq_none (by rw [hinv.size]; omega)]
   cases hx : ends a0 a.eval l with
   | mk t d =>
    rw [hx] at h1 h2
    cases a with
    | mk t' d' =>
     have h3 := hinv.defers
     simp only at h1 h2 h3
     rw [h2, h1, ← h3]
  rw [this] at h
  exact h
 ·exact Nat.le_trans List.countP_le_length (by simp)
 ·intro i o ho hl
  rw [Array.getD_eq_getD_getElem?, Array.getElem?_replicate] at hl
  split at hl <;> cases hl
 intro i hi hl
 rw [Array.getD_eq_getD_getElem?, Array.getElem?_replicate, if_pos hi] at hl
 cases hl
section
variable {P : Program} {n : Nat} {ops : Array Oper} {V V' : Nat → Value → World → Prop} {s : Nat} {a0 : Act} {I : Bool → World → Prop} {Q : Exit → Act → World → Prop}
theorem set_any (hok : okOps ops a0.tmps.size = true) (hVT : ∀ i v w w', V i v w → Stay w w' → V i v w') (hVT' : ∀ i v w w', V' i v w → Stay w w' → V' i v w') (hIT : ∀ ph w w', I ph w → Stay w w' → I ph w')
  (os : Oper) (hos : ops[s]? = some os) (hsg : os.guard = Option.none) (hVs : ∀ v w, V' s v w) (hds : ∀ (i : Nat) (o : Oper), i ≠ s → ops[i]? = some o → o.dst.isSome = true)
  (hst : AppOk P ops V V' s a0 I os)
  (htodo : TodoA P ops V V' s a0 I 0 ops.toList) (hend : ∀ (listed : Array Bool) a w, (∀ i, i < ops.size → listed.getD i true = true) → listed.size = ops.size → InvA ops V V' s a0 I listed a w → Q .normal a w) :
  ∀ (fuel : Nat) (listed : Array Bool) (a : Act) (w : World), listed.size = ops.size → (List.range ops.size).countP (fun j => !listed.getD j true) ≤ fuel → Down ops listed → InvA ops V V' s a0 I listed a w → wpAny P .any ops Q fuel listed a w
 | 0, listed, a, w, hs, hc, hd, hinv => by
  have hall : ∀ i, i < ops.size → listed.getD i true = true := by
   intro i hi
   have h0 : (List.range ops.size).countP (fun j => !listed.getD j true) = 0 := by omega
   have := List.countP_eq_zero.1 h0 i (List.mem_range.2 hi)
   simpa using this
  refine ⟨?_, hend listed a w hall hs hinv⟩
  unfold Region.ready
  refine List.filter_eq_nil_iff.2 fun i hi => ?_
  simp [hall i (List.mem_range.1 hi)]
 | fuel + 1, listed, a, w, hs, hc, hdn, hinv => by
  refine ⟨fun hr => hend listed a w (ready_all hok hs hr) hs hinv, fun i hi => ?_⟩
  obtain ⟨o, ho, hlt, hl, haft⟩ := ready_mem' hi
  have hss : s < ops.size := (Array.getElem?_eq_some_iff.1 hos).1
  have hcnt : (List.range ops.size).countP (fun j => !(listed.setIfInBounds i true).getD j true) ≤ fuel := by
   have := count_set (n := ops.size) hlt hs hl
   omega
  by_cases his : i = s
  ·rw [his] at ho hlt hl hcnt ⊢
   clear his hi
   have hoo : o = os := by rw [ho] at hos; exact Option.some.inj hos
   rw [hoo] at ho haft
   clear hoo
   have hlf : listed.getD s false = false := by rw [← getD_both (by omega)]; exact hl
   have hvals := hinv.vals
   rw [hlf] at hvals
   have hfac : factsOf ops V a.eval w os.after.toList := facts_of _ fun e he hb => by
    have h1 := haft e (by simpa using he) hb
    have h2 := ok_edge hok ho (by simpa using he) hb
    exact hvals e.on (by omega) (by rw [getD_both (by omega)]; exact h1)
   have hit := hinv.t
   rw [hlf] at hit
   have hstep := hst a.eval w hit (base_of a) (known_at hdn hlf hinv.keep _) hfac
   unfold wpOp
   simp only [ho, hsg]
   rw [if_pos (by simp [Region.wanted, hsg])]
   refine .inl (wp_of_ok hstep fun v w' h _ => ?_)
   obtain ⟨h1, hv, h2⟩ := h
   obtain ⟨p1, p2, p3⟩ := put_restK (v := v) (by omega) ho hinv.defers hinv.size hinv.keep
   refine set_any hok hVT hVT' hIT os hos hsg hVs hds hst htodo hend fuel _ _ _ (by simpa using hs) hcnt (down_set hdn hs hlt ho haft) ⟨by rw [getD_set' (by omega), if_pos rfl]; exact h1, p1, p2, p3, ?_⟩
   intro j hj hlj
   have hsl : (listed.setIfInBounds s true).getD s false = true := by rw [getD_set' (by omega), if_pos rfl]
   rw [hsl]
   by_cases hjs : j = s
   ·rw [hjs]
    exact hVs _ _
   rw [getD_set (by omega), if_neg hjs] at hlj
   rw [slot_put hok hinv.size ho v hjs]
   exact h2 j hjs (hvals j hj hlj)
  have hset : (listed.setIfInBounds i true).getD s false = listed.getD s false := by rw [getD_set' (by omega), if_neg (fun e => his e.symm)]
  have hstep := todoA_at ops.toList 0 i o htodo (by simpa using ho)
  rw [Nat.zero_add] at hstep
  have hstep := hstep his (listed.getD s false) (fun hw => by
   obtain ⟨o', ho', e, he, hb, hon⟩ := waits_edge hw
   rw [ho] at ho'; cases ho'
   have := haft e he hb
   rwa [hon] at this) (fun hw => by
   cases hq : listed.getD s false with
   | false => rfl
   | true =>
    have := needs_listed hdn 9 s i hw hq
    rw [← getD_both (by omega), hl] at this
    cases this) a.eval w hinv.t (base_of a) (known_at hdn (by rw [← getD_both (by omega)]; exact hl) hinv.keep _) (facts_of _ fun e he hb => by
     have h1 := haft e (by simpa using he) hb
     have h2 := ok_edge hok ho (by simpa using he) hb
     exact hinv.vals e.on (by omega) (by rw [getD_both (by omega)]; exact h1))
  have next : ∀ v w', two V V' (listed.getD s false) i v w' ∧ Stay w w' → wpAny P .any ops Q fuel (listed.setIfInBounds i true) (a.put o.dst v) w' := by
   intro v w' ⟨hv, ht⟩
   obtain ⟨p1, p2, p3⟩ := put_restK (v := v) (by omega) ho hinv.defers hinv.size hinv.keep
   refine set_any hok hVT hVT' hIT os hos hsg hVs hds hst htodo hend fuel _ _ _ (by simpa using hs) hcnt (down_set hdn hs hlt ho haft) ⟨by rw [hset]; exact hIT _ _ _ hinv.t ht, p1, p2, p3, ?_⟩
   intro j hj hlj
   rw [hset]
   by_cases hji : j = i
   ·rw [hji]
    obtain ⟨d, hd⟩ := Option.isSome_iff_exists.1 (hds i o his ho)
    have := slot_self hok hinv.size ho v (by rw [hd]; intro h; cases h)
    rw [this]; exact hv
   rw [slot_put hok hinv.size ho v hji]
   rw [getD_set (by omega), if_neg hji] at hlj
   have h0 := hinv.vals j hj hlj
   cases hq : listed.getD s false with
   | false => rw [hq] at h0; exact hVT _ _ _ _ h0 ht
   | true => rw [hq] at h0; exact hVT' _ _ _ _ h0 ht
  unfold wpOp
  simp only [ho]
  cases hg : o.guard with
  | none =>
   rw [hg] at hstep
   rw [if_pos (by simp [Region.wanted, hg])]
   exact .inl (wp_of_ok hstep fun v w' h _ => next v w' h)
  | some jw =>
   obtain ⟨j, want⟩ := jw
   rw [hg] at hstep
   obtain ⟨b, hb, h1, h2⟩ := hstep
   obtain ⟨o', d, ho', hd'⟩ := ok_guard hok ho hg
   have hy : yielded ops a.tmps j = some b := by
    simp only [slotOf, ho', hd', Act.eval, Array.getD_eq_getD_getElem?] at hb
    simp only [yielded, ho', hd', Option.bind_some]
    cases hx : a.tmps[d]? with
    | none => rw [hx] at hb; simp [undef] at hb
    | some x => rw [hx] at hb; simp only [Option.getD_some] at hb; subst hb; rfl
   by_cases hbw : b = want
   ·rw [if_pos (by simp [Region.wanted, hg, hy, hbw])]
    exact .inl (wp_of_ok (h1 hbw) fun v w' h _ => next v w' h)
   rw [if_neg (by simp [Region.wanted, hg, hy, hbw])]
   exact next undef w ⟨h2 hbw, Stay.refl w⟩
end
theorem wp_region_set {P : Program} {id : Nat} {l : List Oper} {w0 : World} {a0 : Act} {Q : Exit → Act → World → Prop} (s : Nat) (L L' : List (Value → World → Prop)) (os : Oper) (hos : l[s]? = some os) (hm : P.follows .mixedOrders = true) (hok : okOps l.toArray a0.tmps.size = true)
  (hsg : os.guard = Option.none) (hds : ((List.range l.length).all fun i => i == s || ((l[i]?).bind (·.dst)).isSome) = true) (hVs : L'[s]? = Option.none ∨ L'[s]? = some (fun _ _ => True)) (I : Bool → World → Prop) (hI0 : I false w0.drew) (hIT : ∀ ph w w', I ph w → Stay w w' → I ph w') (hk : KeepAll L) (hk' : KeepAll L')
  (hst : AppOk P l.toArray (vList L) (vList L') s a0 I os) (htodo : TodoA P l.toArray (vList L) (vList L') s a0 I 0 l)
  (hend : ∀ w, I true w → Rest (vList L') Q w 0 l a0) : (Code.region id l.toArray true).wp P Q a0 w0 := by
 refine wp_region_any hm ?_
 have hVs' : ∀ v w, vList L' s v w := fun v w => by
  unfold vList
  rcases hVs with h | h <;> rw [h] <;> trivial
 refine set_any (V := vList L) (V' := vList L') (s := s) (a0 := a0) (I := I) hok (vTwo_keep hk) (vTwo_keep hk') hIT os (by simpa using hos) hsg hVs' ?_ hst (by simpa using htodo) ?_ _ _ _ _ (by simp) ?_ ?_ ⟨by rw [show (Array.replicate l.toArray.size false).getD s false = false from by rw [Array.getD_eq_getD_getElem?, Array.getElem?_replicate]; split <;> rfl]; exact hI0, rfl, rfl, fun _ _ => rfl, ?_⟩
 ·intro i o his ho
  have hi : i < l.length := by simpa using (Array.getElem?_eq_some_iff.1 ho).1
  have := List.all_eq_true.1 hds i (List.mem_range.2 hi)
  have ho' : l[i]? = some o := by simpa using ho
  simpa [his, ho'] using this
 ·intro listed a w hall hsz hinv
  have hs : s < l.length := (List.getElem?_eq_some_iff.1 hos).1
  have hls : listed.getD s false = true := by rw [← getD_both (by simpa [hsz] using hs)]; exact hall s (by simpa using hs)
  have hv := hinv.vals
  rw [hls] at hv
  have h := rest_ends (ev := a.eval) l 0 a0 (fun i o ho => by
   have hi : i < l.length := (List.getElem?_eq_some_iff.1 ho).1
   rw [Nat.zero_add]
   have := hv i (by simpa using hi) (hall i (by simpa using hi))
   simpa [slotOf, ho, two] using this) (hend w (by have h9 := hinv.t; rw [hls] at h9; exact h9))
  have : ends a0 a.eval l = a := by
   have h1 := ends_defers a.eval l a0
   have h2 : (ends a0 a.eval l).tmps = a.tmps := by
    apply Array.ext_getElem?
    intro t
    rw [ends_get]
    split
    ·rename_i hc
     simp [Act.eval, hinv.size, hc.1]
    rename_i hc
    by_cases ht : t < a0.tmps.size
    ·refine (hinv.keep t fun i o ho _ e => hc ⟨ht, o, ?_, e⟩).symm
     have : l[i]? = some o := by simpa using ho
     exact List.mem_of_getElem? this
    rw [Array.getElem?_eq_none (by omega), Array.getElem?_eq_none (by rw [hinv.size]; omega)]
   cases hx : ends a0 a.eval l with
   | mk t d =>
    rw [hx] at h1 h2
    cases a with
    | mk t' d' =>
     have h3 := hinv.defers
     simp only at h1 h2 h3
     rw [h2, h1, ← h3]
  rw [this] at h
  exact h
 ·exact Nat.le_trans List.countP_le_length (by simp)
 ·intro i o ho hl
  rw [Array.getD_eq_getD_getElem?, Array.getElem?_replicate] at hl
  split at hl <;> cases hl
 intro i hi hl
 rw [Array.getD_eq_getD_getElem?, Array.getElem?_replicate, if_pos hi] at hl
 cases hl
end AppK
end Go.Proofs.YtjdebgbiockafaaGreatDoor
namespace Go.Proofs.YtjdebgbiockafaaGreatDoor
namespace Multi2
open Go.RowKit AppK
section
variable {P : Program} {n : Nat} {ops : Array Oper} {V : Nat → Value → World → Prop} {S A : List Nat} {a0 : Act} {I : (Nat → Bool) → (Nat → Value) → World → Prop} {Q : Exit → Act → World → Prop}
def Ended (ops : Array Oper) (S : List Nat) (V : Nat → Value → World → Prop) (I : (Nat → Bool) → (Nat → Value) → World → Prop) (f : Nat → Bool) (ev : Operand → Value) (w : World) (i : Nat) (v : Value) (w' : World) : Prop :=
 V i v w' ∧ if S.contains i = true then I (fun j => j == i || f j) (fun j => if j = i then v else slotOf ops ev j) w' ∧ ∀ j, j ≠ i → V j (slotOf ops ev j) w → V j (slotOf ops ev j) w' else Stay w w'
def TodoM (P : Program) (ops : Array Oper) (S : List Nat) (V : Nat → Value → World → Prop) (a0 : Act) (I : (Nat → Bool) → (Nat → Value) → World → Prop) : Nat → List Oper → Prop
 | _, [] => True
 | i, o :: rest => (∀ (f : Nat → Bool), f i = false → (∀ j, waits ops i j = true → f j = true) → (∀ j, needs ops 9 j i = true → f j = false) → ∀ (ev : Operand → Value) (w : World), I f (slotOf ops ev) w → Base ev → knownAt ops a0 ev i o.op.operands.toList → factsOf ops V ev w o.after.toList →
   match o.guard with
   | Option.none => OpOk P o ev w (Ended ops S V I f ev w i)
   | some (j, want) => ∃ b, slotOf ops ev j = .bool b ∧ (b = want → OpOk P o ev w (Ended ops S V I f ev w i)) ∧ (b ≠ want → V i undef w ∧ S.contains i = false)) ∧ TodoM P ops S V a0 I (i + 1) rest
theorem todoM_at : ∀ (l : List Oper) (k i : Nat) (o : Oper), TodoM P ops S V a0 I k l → l[i]? = some o →
  (∀ (f : Nat → Bool), f (k + i) = false → (∀ j, waits ops (k + i) j = true → f j = true) → (∀ j, needs ops 9 j (k + i) = true → f j = false) → ∀ (ev : Operand → Value) (w : World), I f (slotOf ops ev) w → Base ev → knownAt ops a0 ev (k + i) o.op.operands.toList → factsOf ops V ev w o.after.toList →
   match o.guard with
   | Option.none => OpOk P o ev w (Ended ops S V I f ev w (k + i))
   | some (j, want) => ∃ b, slotOf ops ev j = .bool b ∧ (b = want → OpOk P o ev w (Ended ops S V I f ev w (k + i))) ∧ (b ≠ want → V (k + i) undef w ∧ S.contains (k + i) = false))
 | [], _, _, _, _, h => by simp at h
 | x :: l, k, 0, o, h, e => by simp at e; subst e; exact h.1
 | x :: l, k, i + 1, o, h, e => by
  have := todoM_at l (k + 1) i o h.2 (by simpa using e)
  rw [show k + (i + 1) = k + 1 + i by omega]
  exact this
structure InvM (ops : Array Oper) (V : Nat → Value → World → Prop) (a0 : Act) (I : (Nat → Bool) → (Nat → Value) → World → Prop) (listed : Array Bool) (a : Act) (w : World) : Prop where
 t : I (fun j => listed.getD j false) (slotOf ops a.eval) w
 defers : a.defers = a0.defers
 size : a.tmps.size = a0.tmps.size
 keep : ∀ (t : Nat), (∀ (i : Nat) (o : Oper), ops[i]? = some o → listed.getD i false = true → o.dst ≠ some t) → a.tmps[t]? = a0.tmps[t]?
 vals : ∀ i, i < ops.size → listed.getD i true = true → V i (slotOf ops a.eval i) w
theorem multi_any (hok : okOps ops a0.tmps.size = true) (hVT : ∀ i v w w', V i v w → Stay w w' → V i v w') (hIT : ∀ f s w w', I f s w → Stay w w' → I f s w') (hIS : ∀ f g s t w, (∀ j, S.contains j = true → f j = g j) → (∀ j, A.contains j = true → f j = true → s j = t j) → I f s w → I g t w) (hAS : ∀ j, A.contains j = true → S.contains j = true) (hAd : ∀ (i : Nat) (o : Oper), ops[i]? = some o → A.contains i = true → o.dst.isSome = true)
  (hV0 : ∀ (i : Nat) (o : Oper), ops[i]? = some o → o.dst = Option.none → ∀ v w, V i v w → V i undef w)
  (htodo : TodoM P ops S V a0 I 0 ops.toList) (hend : ∀ (listed : Array Bool) a w, (∀ i, i < ops.size → listed.getD i true = true) → listed.size = ops.size → InvM ops V a0 I listed a w → Q .normal a w) :
  ∀ (fuel : Nat) (listed : Array Bool) (a : Act) (w : World), listed.size = ops.size → (List.range ops.size).countP (fun j => !listed.getD j true) ≤ fuel → Down ops listed → InvM ops V a0 I listed a w → wpAny P .any ops Q fuel listed a w
 | 0, listed, a, w, hs, hc, hd, hinv => by
  have hall : ∀ i, i < ops.size → listed.getD i true = true := by
   intro i hi
   have h0 : (List.range ops.size).countP (fun j => !listed.getD j true) = 0 := by omega
   have := List.countP_eq_zero.1 h0 i (List.mem_range.2 hi)
   simpa using this
  refine ⟨?_, hend listed a w hall hs hinv⟩
  unfold Region.ready
  refine List.filter_eq_nil_iff.2 fun i hi => ?_
  simp [hall i (List.mem_range.1 hi)]
 | fuel + 1, listed, a, w, hs, hc, hdn, hinv => by
  refine ⟨fun hr => hend listed a w (ready_all hok hs hr) hs hinv, fun i hi => ?_⟩
  obtain ⟨o, ho, hlt, hl, haft⟩ := ready_mem' hi
  have hcnt : (List.range ops.size).countP (fun j => !(listed.setIfInBounds i true).getD j true) ≤ fuel := by
   have := count_set (n := ops.size) hlt hs hl
   omega
  have hlf : listed.getD i false = false := by rw [← getD_both (by omega)]; exact hl
  have hstep := todoM_at ops.toList 0 i o htodo (by simpa using ho)
  rw [Nat.zero_add] at hstep
  have hstep := hstep (fun j => listed.getD j false) hlf (fun j hw => by
    obtain ⟨o', ho', e, he, hb, hon⟩ := waits_edge hw
    rw [ho] at ho'; cases ho'
    have := haft e he hb
    rwa [hon] at this) (fun j hw => by
    show listed.getD j false = false
    cases hq : listed.getD j false with
    | false => rfl
    | true =>
     have := needs_listed hdn 9 j i hw hq
     rw [hlf] at this
     cases this) a.eval w hinv.t (base_of a) (known_at hdn hlf hinv.keep _) (facts_of _ fun e he hb => by
      have h1 := haft e (by simpa using he) hb
      have h2 := ok_edge hok ho (by simpa using he) hb
      exact hinv.vals e.on (by omega) (by rw [getD_both (by omega)]; exact h1))
  have next : ∀ v w', Ended ops S V I (fun j => listed.getD j false) a.eval w i v w' → wpAny P .any ops Q fuel (listed.setIfInBounds i true) (a.put o.dst v) w' := by
   intro v w' ⟨hv, ht⟩
   obtain ⟨p1, p2, p3⟩ := put_restK (v := v) (by omega) ho hinv.defers hinv.size hinv.keep
   have hflag : ∀ j, (listed.setIfInBounds i true).getD j false = (j == i || listed.getD j false) := by
    intro j
    rw [getD_set' (by omega)]
    by_cases hj : j = i <;> simp [hj]
   refine multi_any hok hVT hIT hIS hAS hAd hV0 htodo hend fuel _ _ _ (by simpa using hs) hcnt (down_set hdn hs hlt ho haft) ⟨?_, p1, p2, p3, ?_⟩
   ·by_cases hS : S.contains i = true
    ·rw [if_pos hS] at ht
     refine hIS _ _ _ _ _ (fun j _ => (hflag j).symm) (fun j hj hfj => ?_) ht.1
     by_cases hji : j = i
     ·rw [if_pos hji, hji]
      rw [hji] at hj
      refine (slot_self hok hinv.size ho v ?_).symm
      intro h
      have := hAd i o ho hj
      rw [h] at this
      cases this
     rw [if_neg hji]
     exact (slot_put hok hinv.size ho v hji).symm
    rw [if_neg hS] at ht
    refine hIS _ _ _ _ _ (fun j hj => ?_) (fun j hj _ => ?_) (hIT _ _ _ _ hinv.t ht)
    ·rw [hflag j]
     by_cases hji : j = i
     ·rw [hji] at hj; exact absurd hj hS
     simp [hji]
    have hji : j ≠ i := fun h => by rw [h] at hj; exact hS (hAS i hj)
    exact (slot_put hok hinv.size ho v hji).symm
   intro j hj hlj
   by_cases hji : j = i
   ·rw [hji]
    cases hd : o.dst with
    | none =>
     have : slotOf ops (a.put Option.none v).eval i = undef := by simp [slotOf, ho, hd]
     rw [this]
     exact hV0 i o ho hd v w' hv
    | some d =>
     have := slot_self hok hinv.size ho v (by rw [hd]; intro h; cases h)
     rw [hd] at this
     rw [this]; exact hv
   rw [slot_put hok hinv.size ho v hji]
   rw [getD_set (by omega), if_neg hji] at hlj
   have h0 := hinv.vals j hj hlj
   by_cases hS : S.contains i = true
   ·rw [if_pos hS] at ht
    exact ht.2 j hji h0
   rw [if_neg hS] at ht
   exact hVT _ _ _ _ h0 ht
  unfold wpOp
  simp only [ho]
  cases hg : o.guard with
  | none =>
   rw [hg] at hstep
   rw [if_pos (by simp [Region.wanted, hg])]
   exact .inl (wp_of_ok hstep fun v w' h _ => next v w' h)
  | some jw =>
   obtain ⟨j, want⟩ := jw
   rw [hg] at hstep
   obtain ⟨b, hb, h1, h2⟩ := hstep
   obtain ⟨o', d, ho', hd'⟩ := ok_guard hok ho hg
   have hy : yielded ops a.tmps j = some b := by
    simp only [slotOf, ho', hd', Act.eval, Array.getD_eq_getD_getElem?] at hb
    simp only [yielded, ho', hd', Option.bind_some]
    cases hx : a.tmps[d]? with
    | none => rw [hx] at hb; simp [undef] at hb
    | some x => rw [hx] at hb; simp only [Option.getD_some] at hb; subst hb; rfl
   by_cases hbw : b = want
   ·rw [if_pos (by simp [Region.wanted, hg, hy, hbw])]
    exact .inl (wp_of_ok (h1 hbw) fun v w' h _ => next v w' h)
   rw [if_neg (by simp [Region.wanted, hg, hy, hbw])]
   have h3 := h2 hbw
   exact next undef w ⟨h3.1, by rw [if_neg (by rw [h3.2]; decide)]; exact Stay.refl w⟩
end
def TrueAt (L : List (Value → World → Prop)) : List Nat → Prop
 | [] => True
 | i :: r => (vList L i = fun _ _ => True) ∧ TrueAt L r
theorem trueAt_mem {L : List (Value → World → Prop)} : ∀ {nd : List Nat}, TrueAt L nd → ∀ i ∈ nd, vList L i = fun _ _ => True
 | [], _, _, h => by simp at h
 | x :: r, h, i, hi => by
  rcases List.mem_cons.1 hi with rfl | hi
  ·exact h.1
  exact trueAt_mem h.2 i hi
theorem wp_region_multi {P : Program} {id : Nat} {l : List Oper} {w0 : World} {a0 : Act} {Q : Exit → Act → World → Prop} (S A nd : List Nat) (L : List (Value → World → Prop)) (hm : P.follows .mixedOrders = true) (hok : okOps l.toArray a0.tmps.size = true)
  (hds : ((List.range l.length).all fun i => nd.contains i || ((l[i]?).bind (·.dst)).isSome) = true) (hnd : TrueAt L nd) (I : (Nat → Bool) → (Nat → Value) → World → Prop) (hI0 : ∀ s, I (fun _ => false) s w0.drew) (hIT : ∀ f s w w', I f s w → Stay w w' → I f s w')
  (hIS : ∀ f g s t w, (∀ j, S.contains j = true → f j = g j) → (∀ j, A.contains j = true → f j = true → s j = t j) → I f s w → I g t w) (hk : KeepAll L)
  (htodo : TodoM P l.toArray S (vList L) a0 I 0 l)
  (hend : ∀ w s, I (fun _ => true) s w → Rest (fun i v w => (A.contains i = true → v = s i) ∧ vList L i v w) Q w 0 l a0) (hSl : (S.all fun i => decide (i < l.length)) = true) (hAS : (A.all fun i => S.contains i && ((l[i]?).bind (·.dst)).isSome) = true) : (Code.region id l.toArray true).wp P Q a0 w0 := by
 refine wp_region_any hm ?_
 refine multi_any (V := vList L) (S := S) (a0 := a0) (I := I) (A := A) hok (vTwo_keep hk) hIT hIS ?_ ?_ ?_ (by simpa using htodo) ?_ _ _ _ _ (by simp) ?_ ?_ ⟨?_, rfl, rfl, fun _ _ => rfl, ?_⟩
 ·intro j hj
  have := List.all_eq_true.1 hAS j (by simpa using hj)
  simp only [Bool.and_eq_true] at this
  exact this.1
 ·intro i o ho hj
  have := List.all_eq_true.1 hAS i (by simpa using hj)
  simp only [Bool.and_eq_true] at this
  have ho' : l[i]? = some o := by simpa using ho
  simpa [ho'] using this.2
 ·intro i o ho hd v w _
  have hi : i < l.length := by simpa using (Array.getElem?_eq_some_iff.1 ho).1
  have := List.all_eq_true.1 hds i (List.mem_range.2 hi)
  have ho' : l[i]? = some o := by simpa using ho
  have hc : i ∈ nd := by simpa [ho', hd] using this
  rw [trueAt_mem hnd i hc]
  trivial
 ·intro listed a w hall hsz hinv
  have hv := hinv.vals
  have hI : I (fun _ => true) (slotOf l.toArray a.eval) w := hIS _ _ _ _ _ (fun j hj => by
    show listed.getD j false = true
    have hjl : j < l.length := by
     have hm : j ∈ S := by simpa using hj
     simpa using List.all_eq_true.1 hSl j hm
    rw [← getD_both (by rw [hsz]; simpa using hjl)]
    exact hall j (by simpa using hjl)) (fun _ _ _ => rfl) hinv.t
  have h := rest_ends (ev := a.eval) l 0 a0 (fun i o ho => by
   have hi : i < l.length := (List.getElem?_eq_some_iff.1 ho).1
   rw [Nat.zero_add]
   have h1 := hv i (by simpa using hi) (hall i (by simpa using hi))
   refine ⟨fun _ => ?_, ?_⟩
   ·simp [slotOf, ho]
   simpa [slotOf, ho] using h1) (hend w _ hI)
  have : ends a0 a.eval l = a := by
   have h1 := ends_defers a.eval l a0
   have h2 : (ends a0 a.eval l).tmps = a.tmps := by
    apply Array.ext_getElem?
    intro t
    rw [ends_get]
    split
    ·rename_i hc
     simp [Act.eval, hinv.size, hc.1]
    rename_i hc
    by_cases ht : t < a0.tmps.size
    ·refine (hinv.keep t fun i o ho _ e => hc ⟨ht, o, ?_, e⟩).symm
     have : l[i]? = some o := by simpa using ho
     exact List.mem_of_getElem? this
    rw [Array.getElem?_eq_none (by omega), Array.getElem?_eq_none (by rw [hinv.size]; omega)]
   cases hx : ends a0 a.eval l with
   | mk t d =>
    rw [hx] at h1 h2
    cases a with
    | mk t' d' =>
     have h3 := hinv.defers
     simp only at h1 h2 h3
     rw [h2, h1, ← h3]
  rw [this] at h
  exact h
 ·exact Nat.le_trans List.countP_le_length (by simp)
 ·intro i o ho hl
  rw [Array.getD_eq_getD_getElem?, Array.getElem?_replicate] at hl
  split at hl <;> cases hl
 ·refine hIS (fun _ => false) _ (fun _ => undef) _ _ (fun j _ => ?_) (fun j _ h => by cases h) (hI0 (fun _ => undef))
  rw [Array.getD_eq_getD_getElem?, Array.getElem?_replicate]
  split <;> rfl
 intro i hi hl
 rw [Array.getD_eq_getD_getElem?, Array.getElem?_replicate, if_pos hi] at hl
 cases hl
theorem ended_stay {ops : Array Oper} {S : List Nat} {V : Nat → Value → World → Prop} {I : (Nat → Bool) → (Nat → Value) → World → Prop} {f : Nat → Bool} {ev : Operand → Value} {w w' : World} {i : Nat} {v : Value} (hS : S.contains i = false) (hv : V i v w') (hs : Stay w w') : Ended ops S V I f ev w i v w' :=
 ⟨hv, by rw [if_neg (by rw [hS]; decide)]; exact hs⟩
theorem ended_turn {ops : Array Oper} {S : List Nat} {V : Nat → Value → World → Prop} {I : (Nat → Bool) → (Nat → Value) → World → Prop} {f : Nat → Bool} {ev : Operand → Value} {w w' : World} {i : Nat} {v : Value} (hS : S.contains i = true) (hv : V i v w') (hI : I (fun j => j == i || f j) (fun j => if j = i then v else slotOf ops ev j) w') (hk : ∀ j v, V j v w → V j v w') : Ended ops S V I f ev w i v w' :=
 ⟨hv, by rw [if_pos hS]; exact ⟨hI, fun j _ h => hk j _ h⟩⟩
theorem free_keep {L : List (Value → World → Prop)} (h : ∀ p ∈ L, ∀ v w w', p v w → p v w') (w w' : World) (j : Nat) (v : Value) (hv : vList L j v w) : vList L j v w' := by
 unfold vList at hv ⊢
 cases hq : L[j]? with
 | none => rw [hq] at hv; exact hv
 | some P => rw [hq] at hv; exact h P (List.mem_of_getElem? hq) v w w' hv
def bv (v : Value) (o : Obj) : SP := ⟨fun h => ∃ g, v = .pointer (some ⟨g, 0, .none⟩) ∧ h g = some o⟩
theorem bv_blk {v : Value} {o : Obj} {F : SP} {w : World} (h : (bv v o * F).on w) : ∃ g, v = .pointer (some ⟨g, 0, .none⟩) ∧ (blk g o * F).on w := by
 obtain ⟨a, b, h1, h2, h3, ⟨g, e, p⟩, q⟩ := SP.on_mul.1 h
 exact ⟨g, e, SP.on_mul.2 ⟨a, b, h1, h2, h3, p, q⟩⟩
theorem blk_bv {g : Nat} {o : Obj} {F : SP} {w : World} (h : (blk g o * F).on w) : (bv (.pointer (some ⟨g, 0, .none⟩)) o * F).on w := by
 obtain ⟨a, b, h1, h2, h3, p, q⟩ := SP.on_mul.1 h
 exact SP.on_mul.2 ⟨a, b, h1, h2, h3, ⟨g, rfl, p⟩, q⟩
def opt (b : Bool) (P : SP) : SP := if b = true then P else emp
theorem opt_false (P : SP) : opt false P = emp := rfl
end Multi2
theorem OpOk.store_agg {P : Program} {o : Oper} {ev : Operand → Value} {W : World} {R : Value → World → Prop} {F : SP} (ty : TypeId) (x y : Operand) (ho : o.op = .store ty x y)
  (g : Nat) (cs : Array Value) (hx : ev x = .pointer (some ⟨g, 0, .none⟩)) (hy : ev y = .agg cs) (t : TypeId) (old : Array Value) (H : (blk g (.cells old t (0, 0)) * F).on W) (hi : (P.info? ty).map (·.size) = some cs.size)
  (hl : old.size = cs.size) (h1 : cs.all (·.oneCell') = true)
  (h : (blk g (.cells cs t (0, 0)) * F).on (W.setRow g cs) → R undef (W.setRow g cs)) : OpOk P o ev W R := by
 have hs := run_storeCells_at (P := P) g 0 t cs.toList 0 old W (on_blk_mul H) (by simp; omega) (by
  intro u hu
  exact (Array.all_eq_true_iff_forall_mem.1 h1) u (by simpa using hu))
 have e : old.toList.take 0 ++ cs.toList ++ old.toList.drop (0 + cs.toList.length) = cs.toList := by
  rw [List.take_zero, List.nil_append, List.drop_of_length_le (by simp; omega), List.append_nil]
 simp only [Nat.add_zero, e, Array.toArray_toList] at hs
 have hsv : (storeVar ty ⟨g, 0, .none⟩ (.agg cs)).run P W = .ok () (W.setRow g cs) := by
  cases hq : P.info? ty with
  | none => simp [hq] at hi
  | some i =>
   have hz : i.size = cs.size := by simpa [hq] using hi
   simp [storeVar, sizeOf, typeInfo, hq, Value.cells, hz, hs]
 unfold OpOk execOp
 simp only [ho, hx, hy, Instr.storeAt, Instr.sureAddr, Sem.run_bind, Sem.run_pure, Result.andThen_ok, hsv]
 exact h (H.setRow cs)
end Go.Proofs.YtjdebgbiockafaaGreatDoor
namespace Go.Proofs.YtjdebgbiockafaaGreatDoor
namespace Multi
open Go.RowKit AppK
abbrev Ended (ops : Array Oper) (S : List Nat) (V : Nat → Value → World → Prop) (I : (Nat → Bool) → World → Prop) (f : Nat → Bool) (ev : Operand → Value) (w : World) (i : Nat) (v : Value) (w' : World) : Prop := Multi2.Ended ops S V (fun f _ w => I f w) f ev w i v w'
abbrev TodoM (P : Program) (ops : Array Oper) (S : List Nat) (V : Nat → Value → World → Prop) (a0 : Act) (I : (Nat → Bool) → World → Prop) : Nat → List Oper → Prop := Multi2.TodoM P ops S V a0 (fun f _ w => I f w)
theorem rest_imp {V V' : Nat → Value → World → Prop} {Q : Exit → Act → World → Prop} {w : World} (h : ∀ i v, V i v w → V' i v w) : ∀ (l : List Oper) (i : Nat) (a : Act), Rest V' Q w i l a → Rest V Q w i l a
 | [], _, _, k => k
 | _ :: l, i, _, k => fun v hv => rest_imp h l (i + 1) _ (k v (h i v hv))
theorem wp_region_multi {P : Program} {id : Nat} {l : List Oper} {w0 : World} {a0 : Act} {Q : Exit → Act → World → Prop} (S nd : List Nat) (L : List (Value → World → Prop)) (hm : P.follows .mixedOrders = true) (hok : okOps l.toArray a0.tmps.size = true)
  (hds : ((List.range l.length).all fun i => nd.contains i || ((l[i]?).bind (·.dst)).isSome) = true) (hnd : Multi2.TrueAt L nd) (I : (Nat → Bool) → World → Prop) (hI0 : I (fun _ => false) w0.drew) (hIT : ∀ f w w', I f w → Stay w w' → I f w')
  (hIS : ∀ f g w, (∀ j, S.contains j = true → f j = g j) → I f w → I g w) (hk : KeepAll L)
  (htodo : TodoM P l.toArray S (vList L) a0 I 0 l)
  (hend : ∀ w, I (fun _ => true) w → Rest (vList L) Q w 0 l a0) (hSl : (S.all fun i => decide (i < l.length)) = true) : (Code.region id l.toArray true).wp P Q a0 w0 :=
 Multi2.wp_region_multi S [] nd L hm hok hds hnd (fun f _ w => I f w) (fun _ => hI0) (fun f _ a b h k => hIT f a b h k) (fun f g _ _ w h _ k => hIS f g w h k) hk htodo (fun w _ h => rest_imp (fun _ _ h => h.2) l 0 a0 (hend w h)) hSl rfl
theorem ended_stay {ops : Array Oper} {S : List Nat} {V : Nat → Value → World → Prop} {I : (Nat → Bool) → World → Prop} {f : Nat → Bool} {ev : Operand → Value} {w w' : World} {i : Nat} {v : Value} (hS : S.contains i = false) (hv : V i v w') (hs : Stay w w') : Ended ops S V I f ev w i v w' := Multi2.ended_stay hS hv hs
theorem ended_turn {ops : Array Oper} {S : List Nat} {V : Nat → Value → World → Prop} {I : (Nat → Bool) → World → Prop} {f : Nat → Bool} {ev : Operand → Value} {w w' : World} {i : Nat} {v : Value} (hS : S.contains i = true) (hv : V i v w') (hI : I (fun j => j == i || f j) w') (hk : ∀ j v, V j v w → V j v w') : Ended ops S V I f ev w i v w' := Multi2.ended_turn hS hv hI hk
theorem free_keep {L : List (Value → World → Prop)} (h : ∀ p ∈ L, ∀ v w w', p v w → p v w') (w w' : World) (j : Nat) (v : Value) (hv : vList L j v w) : vList L j v w' := Multi2.free_keep h w w' j v hv
end Multi
end Go.Proofs.YtjdebgbiockafaaGreatDoor
namespace Go.Proofs.YtjdebgbiockafaaGreatDoor
open Go.RowKit
def TodoG (P : Program) (ops : Array Oper) (V : Nat → Value → World → Prop) (T : World → World → Prop) (a0 : Act) (w1 : World) : Nat → List Oper → Prop
 | _, [] => True
 | i, o :: rest => (∀ (ev : Operand → Value) (w : World), T w1 w → Base ev → knownOf ops a0 ev o.op.operands.toList → factsOf ops V ev w o.after.toList →
   match o.guard with
   | Option.none => OpOk P o ev w (fun v w' => V i v w' ∧ T w w')
   | some (j, want) => (∃ b, slotOf ops ev j = .bool b ∧ (b = want → OpOk P o ev w (fun v w' => V i v w' ∧ T w w')) ∧ (b ≠ want → V i undef w)) ∨ (slotOf ops ev j = undef ∧ V i undef w)) ∧ TodoG P ops V T a0 w1 (i + 1) rest
section
variable {P : Program} {n : Nat} {ops : Array Oper} {V : Nat → Value → World → Prop} {T : World → World → Prop} {a0 : Act} {w1 : World} {Q : Exit → Act → World → Prop}
theorem todoG_at : ∀ (l : List Oper) (k i : Nat) (o : Oper), TodoG P ops V T a0 w1 k l → l[i]? = some o →
  (∀ (ev : Operand → Value) (w : World), T w1 w → Base ev → knownOf ops a0 ev o.op.operands.toList → factsOf ops V ev w o.after.toList →
   match o.guard with
   | Option.none => OpOk P o ev w (fun v w' => V (k + i) v w' ∧ T w w')
   | some (j, want) => (∃ b, slotOf ops ev j = .bool b ∧ (b = want → OpOk P o ev w (fun v w' => V (k + i) v w' ∧ T w w')) ∧ (b ≠ want → V (k + i) undef w)) ∨ (slotOf ops ev j = undef ∧ V (k + i) undef w))
 | [], _, _, _, _, h => by simp at h
 | x :: l, k, 0, o, h, e => by simp at e; subst e; exact h.1
 | x :: l, k, i + 1, o, h, e => by
  have := todoG_at l (k + 1) i o h.2 (by simpa using e)
  rw [show k + (i + 1) = k + 1 + i by omega]
  exact this
theorem TodoG.from' {w2 : World} (h : ∀ w, T w1 w → T w2 w) : ∀ (l : List Oper) (i : Nat), TodoG P ops V T a0 w2 i l → TodoG P ops V T a0 w1 i l
 | [], _, _ => trivial
 | _ :: l, i, ht => ⟨fun ev w hw => ht.1 ev w (h w hw), TodoG.from' h l (i + 1) ht.2⟩
theorem freeG_any (hok : okOps ops a0.tmps.size = true) (hTr : ∀ w, T w w) (hTt : ∀ a b c, T a b → T b c → T a c) (hVT : ∀ i v w w', V i v w → T w w' → V i v w') (hV0 : ∀ (i : Nat) (o : Oper), ops[i]? = some o → o.dst = Option.none → ∀ v w, V i v w → V i undef w)
  (htodo : TodoG P ops V T a0 w1 0 ops.toList) (hend : ∀ (listed : Array Bool) a w, (∀ i, i < ops.size → listed.getD i true = true) → Inv ops V T a0 w1 listed a w → Q .normal a w) :
  ∀ (fuel : Nat) (listed : Array Bool) (a : Act) (w : World), listed.size = ops.size → (List.range ops.size).countP (fun j => !listed.getD j true) ≤ fuel → Inv ops V T a0 w1 listed a w → wpAny P .any ops Q fuel listed a w
 | 0, listed, a, w, hs, hc, hinv => by
  have hall : ∀ i, i < ops.size → listed.getD i true = true := by
   intro i hi
   have h0 : (List.range ops.size).countP (fun j => !listed.getD j true) = 0 := by omega
   have := List.countP_eq_zero.1 h0 i (List.mem_range.2 hi)
   simpa using this
  refine ⟨?_, hend listed a w hall hinv⟩
  unfold Region.ready
  refine List.filter_eq_nil_iff.2 fun i hi => ?_
  simp [hall i (List.mem_range.1 hi)]
 | fuel + 1, listed, a, w, hs, hc, hinv => by
  refine ⟨fun hr => hend listed a w (ready_all hok hs hr) hinv, fun i hi => ?_⟩
  obtain ⟨o, ho, hlt, hl, haft⟩ := ready_mem hs hi
  have hstep := todoG_at ops.toList 0 i o htodo (by simpa using ho)
  have hstep := hstep a.eval w hinv.t (base_of a) (known_of hinv.keep _) (facts_of _ fun e he hb => hinv.vals _ (by have := ok_edge hok ho (by simpa using he) hb; omega) (haft e (by simpa using he) hb (by have := ok_edge hok ho (by simpa using he) hb; omega)))
  rw [Nat.zero_add] at hstep
  have next : ∀ v w', V i v w' ∧ T w w' → wpAny P .any ops Q fuel (listed.setIfInBounds i true) (a.put o.dst v) w' := by
   intro v w' ⟨hv, ht⟩
   refine freeG_any hok hTr hTt hVT hV0 htodo hend fuel _ _ _ (by simpa using hs) ?_ (inv_put hok hTt hVT hinv ho v ht ?_)
   ·have := count_set (n := ops.size) hlt hs hl
    omega
   cases hd : o.dst with
   | none =>
    have : slotOf ops (a.put Option.none v).eval i = undef := by simp [slotOf, ho, hd]
    rw [this]
    exact hV0 i o ho hd v w' hv
   | some d =>
    have := slot_self hok hinv.size ho v (by rw [hd]; intro h; cases h)
    rw [hd] at this
    rw [this]; exact hv
  unfold wpOp
  simp only [ho]
  cases hg : o.guard with
  | none =>
   rw [hg] at hstep
   rw [if_pos (by simp [Region.wanted, hg])]
   exact .inl (wp_of_ok hstep fun v w' h _ => next v w' h)
  | some jw =>
   obtain ⟨j, want⟩ := jw
   rw [hg] at hstep
   obtain ⟨o', d, ho', hd'⟩ := ok_guard hok ho hg
   rcases hstep with ⟨b, hb, h1, h2⟩ | ⟨hb, h2⟩
   ·have hy : yielded ops a.tmps j = some b := by
     simp only [slotOf, ho', hd', Act.eval, Array.getD_eq_getD_getElem?] at hb
     simp only [yielded, ho', hd', Option.bind_some]
     cases hx : a.tmps[d]? with
     | none => rw [hx] at hb; simp [undef] at hb
     | some x => rw [hx] at hb; simp only [Option.getD_some] at hb; subst hb; rfl
    by_cases hbw : b = want
    ·rw [if_pos (by simp [Region.wanted, hg, hy, hbw])]
     exact .inl (wp_of_ok (h1 hbw) fun v w' h _ => next v w' h)
    rw [if_neg (by simp [Region.wanted, hg, hy, hbw])]
    exact next undef w ⟨h2 hbw, hTr w⟩
   have hy : yielded ops a.tmps j = Option.none := by
    simp only [slotOf, ho', hd', Act.eval, Array.getD_eq_getD_getElem?] at hb
    simp only [yielded, ho', hd', Option.bind_some]
    cases hx : a.tmps[d]? with
    | none => rfl
    | some x => rw [hx] at hb; simp only [Option.getD_some] at hb; subst hb; rfl
   rw [if_neg (by simp [Region.wanted, hg, hy])]
   exact next undef w ⟨h2, hTr w⟩
theorem wp_region_freeg {id : Nat} {l : List Oper} {w0 : World} (V : Nat → Value → World → Prop) (T : World → World → Prop) (hm : P.follows .mixedOrders = true) (hok : okOps l.toArray a0.tmps.size = true)
  (hTr : ∀ w, T w w) (hTt : ∀ a b c, T a b → T b c → T a c) (hVT : ∀ i v w w', V i v w → T w w' → V i v w')
  (hV0 : ∀ (i : Nat) (o : Oper), l.toArray[i]? = some o → o.dst = Option.none → ∀ v w, V i v w → V i undef w)
  (htodo : TodoG P l.toArray V T a0 w0.drew 0 l) (hend : ∀ w, T w0.drew w → Rest V Q w 0 l a0) : (Code.region id l.toArray true).wp P Q a0 w0 := by
 refine wp_region_any hm ?_
 refine freeG_any (a0 := a0) (w1 := w0.drew) hok hTr hTt hVT hV0 (by simpa using htodo) ?_ _ _ _ _ (by simp) ?_ ⟨hTr _, rfl, rfl, fun _ _ => rfl, ?_⟩
 ·intro listed a w hall hinv
  have h := rest_ends (ev := a.eval) l 0 a0 (fun i o ho => by
   have hi : i < l.length := (List.getElem?_eq_some_iff.1 ho).1
   have := hinv.vals i (by simpa using hi) (hall i (by simpa using hi))
   rw [Nat.zero_add]
   simpa [slotOf, ho] using this) (hend w hinv.t)
  have : ends a0 a.eval l = a := by
   have h1 := ends_defers a.eval l a0
   have h2 : (ends a0 a.eval l).tmps = a.tmps := by
    apply Array.ext_getElem?
    intro t
    rw [ends_get]
    split
    ·rename_i hc
     simp [Act.eval, hinv.size, hc.1]
    rename_i hc
    by_cases ht : t < a0.tmps.size
    ·refine (hinv.keep t fun i o ho e => hc ⟨ht, o, ?_, e⟩).symm
     have : l[i]? = some o := by simpa using ho
     exact List.mem_of_getElem? this
    rw [Array.getElem?_eq_none (by omega), Array.getElem?_eq_none (by rw [hinv.size]; omega)]
   cases hx : ends a0 a.eval l with
   | mk t d =>
    rw [hx] at h1 h2
    cases a with
    | mk t' d' =>
     have h3 := hinv.defers
     simp only at h1 h2 h3
     rw [h2, h1, ← h3]
  rw [this] at h
  exact h
 ·exact Nat.le_trans List.countP_le_length (by simp)
 intro i hi hl
 rw [Array.getD_eq_getD_getElem?, Array.getElem?_replicate, if_pos hi] at hl
 cases hl
end
theorem wp_region_vsg {P : Program} {id : Nat} {l : List Oper} {w0 : World} {a0 : Act} {Q : Exit → Act → World → Prop} (L : List (Value → World → Prop)) (hm : P.follows .mixedOrders = true) (hok : okOps l.toArray a0.tmps.size = true)
  (hds : (l.all fun o => o.dst.isSome) = true) (hk : KeepAll L) (htodo : TodoG P l.toArray (vList L) Stay a0 w0 0 l) (hend : ∀ w, Stay w0 w → Rest (vList L) Q w 0 l a0) : (Code.region id l.toArray true).wp P Q a0 w0 :=
 wp_region_freeg (vList L) Stay hm hok Stay.refl (fun _ _ _ h k => Stay.trans h k) (vList_keep hk.mem) (fun i o ho hd => by
  have := List.all_eq_true.1 hds o (by simpa using Array.mem_of_getElem? ho)
  simp [hd] at this) (TodoG.from' (fun _ h => h.undrew) l 0 htodo) (fun w h => hend w h.undrew)
theorem rG {P : Program} {id : Nat} {l : List Oper} {w0 : World} {a0 : Act} {Q : Exit → Act → World → Prop} (L : List (Value → World → Prop)) (htodo : TodoG P l.toArray (vList L) Stay a0 w0 0 l) (hend : ∀ w, Stay w0 w → Rest (vList L) Q w 0 l a0)
  (hm : P.follows .mixedOrders = true := by kernel_rfl) (hok : okOps l.toArray a0.tmps.size = true := by kernel_rfl) (hds : (l.all fun o => o.dst.isSome) = true := by rfl) (hk : KeepAll L := by repeat (first | exact trivial | refine ⟨fun _ _ _ h _ => h, ?_⟩)) : (Code.region id l.toArray true).wp P Q a0 w0 :=
 wp_region_vsg L hm hok hds hk htodo hend
theorem any_tail {P : Program} {ops : List Oper} {w0 : World} {a0 : Act} {Q : Exit → Act → World → Prop} (k : Nat) (L : List (Value → World → Prop)) {l1 l2 : List Oper} (h1 : ops.take k = l1) (h2 : ops.drop k = l2) (hok : okOps ops.toArray a0.tmps.size = true)
  (hq : okSeq ops.toArray k = true) (hkn : k < ops.length) (hds : (l1.all fun o => o.dst.isSome) = true) (hk : KeepAll L) (htodo : TodoT P l1.toArray ops.toArray (vList L) Stay a0 w0 0 l1)
  (hend : ∀ w, Stay w0 w → Rest (vList L) (fun _ a w => wpList P ops.toArray Q l2 a w) w 0 l1 a0) : wpAny P .any ops.toArray Q ops.toArray.size (Array.replicate ops.toArray.size false) a0 w0 := by
 subst h1 h2
 refine tail_any (V := vList L) (T := Stay) (a0 := a0) (w1 := w0) (k := k) hok hq (by simpa using hkn) Stay.refl (fun _ _ _ h k => Stay.trans h k) (vList_keep hk.mem) (fun i o hi ho hd => by
  have hm : o ∈ ops.take k := by
   have : (ops.take k)[i]? = some o := by rw [List.getElem?_take, if_pos hi]; simpa using ho
   exact List.mem_of_getElem? this
  have := List.all_eq_true.1 hds o hm
  simp [hd] at this) (by simpa using htodo) ?_ _ _ _ _ (by simp) ?_ ?_ ?_ ⟨Stay.refl _, rfl, rfl, fun _ _ => rfl, ?_⟩ (fun _ _ _ _ _ _ => rfl)
 ·intro listed a w hall hinv hke
  have h := rest_ends (ev := a.eval) (ops.take k) 0 a0 (fun i o ho => by
   have hi : i < (ops.take k).length := (List.getElem?_eq_some_iff.1 ho).1
   simp only [List.length_take] at hi
   have := hinv.vals i (by simp; omega) (hall i (by omega))
   rw [Nat.zero_add]
   rw [List.getElem?_take, if_pos (by omega)] at ho
   simpa [slotOf, ho] using this) (hend w hinv.t)
  have : ends a0 a.eval (ops.take k) = a := by
   have h1 := ends_defers a.eval (ops.take k) a0
   have h2 : (ends a0 a.eval (ops.take k)).tmps = a.tmps := by
    apply Array.ext_getElem?
    intro t
    rw [ends_get]
    split
    ·rename_i hc
     simp [Act.eval, hinv.size, hc.1]
    rename_i hc
    by_cases ht : t < a0.tmps.size
    ·by_cases hex : ∃ (j : Nat) (o : Oper), k ≤ j ∧ ops.toArray[j]? = some o ∧ o.dst = some t
     ·obtain ⟨j, o, hj, ho, hdt⟩ := hex
      exact (hke j o t hj ho hdt).symm
     refine (hinv.keep t fun i o ho e => ?_).symm
     by_cases hik : i < k
     ·refine hc ⟨ht, o, ?_, e⟩
      have : (ops.take k)[i]? = some o := by rw [List.getElem?_take, if_pos hik]; simpa using ho
      exact List.mem_of_getElem? this
     exact hex ⟨i, o, by omega, ho, e⟩
    rw [Array.getElem?_eq_none (by omega), Array.getElem?_eq_none (by rw [hinv.size]; omega)]
   cases hx : ends a0 a.eval (ops.take k) with
   | mk t d =>
    rw [hx] at h1 h2
    cases a with
    | mk t' d' =>
     have h3 := hinv.defers
     simp only at h1 h2 h3
     rw [h2, h1, ← h3]
  rw [this] at h
  simpa using h
 ·exact Nat.le_trans List.countP_le_length (by simp)
 ·intro i o ho hl
  rw [Array.getD_eq_getD_getElem?, Array.getElem?_replicate] at hl
  split at hl <;> cases hl
 ·intro i _ hi
  rw [Array.getD_eq_getD_getElem?, Array.getElem?_replicate, if_pos hi]; rfl
 intro i hi hl
 rw [Array.getD_eq_getD_getElem?, Array.getElem?_replicate, if_pos hi] at hl
 cases hl
section
variable {P : Program} {ops : Array Oper} {Q : Exit → Act → World → Prop}
theorem ops_of_any {N : Nat} (hok : okOps ops N = true) : ∀ (fuel t : Nat) (listed : Array Bool) (a : Act) (w : World), listed.size = ops.size → (∀ i, i < t → listed.getD i true = true) → (∀ i, t ≤ i → i < ops.size → listed.getD i true = false) → ops.size - t ≤ fuel → t ≤ ops.size →
  wpAny P .any ops Q fuel listed a w → wpOps P ops Q (List.range' t (ops.size - t)) a w := by
 have hnone : ∀ (t : Nat) (listed : Array Bool), ops.size ≤ t → (∀ i, i < t → listed.getD i true = true) → Region.ready .any ops listed = [] := by
  intro t listed ht hl
  unfold Region.ready
  refine List.filter_eq_nil_iff.2 fun i hi => ?_
  simp [hl i (by have := List.mem_range.1 hi; omega)]
 intro fuel
 induction fuel with
 | zero =>
  intro t listed a w hs hl hu hf ht h
  have ht2 : t = ops.size := by omega
  subst ht2
  rw [Nat.sub_self]; exact h.2
 | succ fuel ih =>
  intro t listed a w hs hl hu hf ht h
  by_cases ht2 : t = ops.size
  ·subst ht2
   rw [Nat.sub_self]; exact h.1 (hnone _ _ (Nat.le_refl _) hl)
  have htl : t < ops.size := by omega
  have hot : ops[t]? = some ops[t] := Array.getElem?_eq_getElem htl
  have hmem : t ∈ Region.ready .any ops listed := by
   refine List.mem_filter.2 ⟨List.mem_range.2 htl, ?_⟩
   rw [hu t (Nat.le_refl _) htl]
   simp only [Bool.not_false, Bool.true_and, hot, Option.map_some, Option.getD_some]
   refine Array.all_eq_true_iff_forall_mem.2 fun e he => ?_
   cases hb : Region.binds .any e with
   | false => simp
   | true =>
    have hlt := ok_edge hok hot he hb
    have h2 := hl e.on (by omega)
    rw [getD_both (by omega)] at h2
    simp [h2]
  have h2 := h.2 t hmem
  rw [show ops.size - t = (ops.size - (t + 1)) + 1 by omega, List.range'_succ, wpOps_cons]
  refine wpOp_mono (fun a w h3 => ih (t + 1) _ a w (by simpa using hs) ?_ ?_ (by omega) (by omega) h3) h2
  ·intro j hj
   rw [getD_set (by omega)]
   split
   ·rfl
   exact hl j (by omega)
  intro j hj hj2
  rw [getD_set (by omega), if_neg (by omega)]
  exact hu j (by omega) hj2
end
theorem wp_region_seq {P : Program} {id : Nat} {ops : List Oper} {w0 : World} {a0 : Act} {Q : Exit → Act → World → Prop} (k : Nat) (L : List (Value → World → Prop)) {l1 l2 : List Oper} (h1 : ops.take k = l1) (h2 : ops.drop k = l2) (hm : P.follows .mixedOrders = true) (hok : okOps ops.toArray a0.tmps.size = true)
  (hq : okSeq ops.toArray k = true) (hkn : k < ops.length) (hds : (l1.all fun o => o.dst.isSome) = true) (hk : KeepAll L) (htodo : TodoT P l1.toArray ops.toArray (vList L) Stay a0 w0 0 l1)
  (hend : ∀ w, Stay w0 w → Rest (vList L) (fun _ a w => wpList P ops.toArray Q l2 a w) w 0 l1 a0) : (Code.region id ops.toArray false).wp P Q a0 w0 := by
 refine wp_region ?_
 have h := any_tail k L h1 h2 hok hq hkn hds hk htodo hend
 have h3 := ops_of_any hok _ 0 _ _ _ (by simp) (fun i hi => absurd hi (Nat.not_lt_zero _)) (fun i _ hi => by
  rw [Array.getD_eq_getD_getElem?, Array.getElem?_replicate, if_pos hi]; rfl) (by omega) (Nat.zero_le _) h
 rw [Nat.sub_zero] at h3
 rw [List.range_eq_range']
 exact h3
theorem kF {L : List (Value → World → Prop)} (h : KeepAll L := by repeat (first | exact trivial | refine ⟨fun _ _ _ h _ => h, ?_⟩ | refine ⟨Fresh.keep, ?_⟩)) : KeepAll L := h
theorem sQ {P : Program} {id : Nat} {ops : List Oper} {w0 : World} {a0 : Act} {Q : Exit → Act → World → Prop} (k : Nat) (L : List (Value → World → Prop)) {l1 l2 : List Oper} (htodo : TodoT P l1.toArray ops.toArray (vList L) Stay a0 w0 0 l1)
  (hend : ∀ w, Stay w0 w → Rest (vList L) (fun _ a w => wpList P ops.toArray Q l2 a w) w 0 l1 a0) (h1 : ops.take k = l1 := by simp only [List.take_succ_cons, List.take_zero]; rfl) (h2 : ops.drop k = l2 := by simp only [List.drop_succ_cons, List.drop_zero]; rfl) (hm : P.follows .mixedOrders = true := by kernel_rfl) (hok : okOps ops.toArray a0.tmps.size = true := by kernel_rfl)
  (hq : okSeq ops.toArray k = true := by kernel_rfl) (hkn : k < ops.length := by decide) (hds : (l1.all fun o => o.dst.isSome) = true := by rfl) (hk : KeepAll L := by exact kF) : (Code.region id ops.toArray false).wp P Q a0 w0 :=
 wp_region_seq k L h1 h2 hm hok hq hkn hds hk htodo hend
theorem wp_seq_h {P : Program} {x y : Code} {Q : Exit → Act → World → Prop} {a : Act} {w : World} (h : ∀ K : Act → World → Prop, Hid (∀ a w, y.wp P Q a w → K a w) → x.wp P (Exit.then K Q) a w) : (Code.seq x y).wp P Q a w :=
 wp_seq_k fun K hK => h K hK
theorem on_fresh {R : SP} {w X : World} (h : R.on w) (hb : Below w.heap.size w X) {g : Nat} {o : Obj} (hg : w.heap.size ≤ g) (ho : X.heap[g]? = some o) : (blk g o * R).on X := by
 obtain ⟨x, hs, p⟩ := h
 have hsz : x g = Option.none := by
  cases e : x g with
  | none => rfl
  | some y =>
   have := hs _ _ e
   have := (Array.getElem?_eq_some_iff.1 this).1
   omega
 refine SP.on_mul.2 ⟨fun k => if k = g then some o else Option.none, x, ?_, ?_, ?_, by simp [blk], p⟩
 ·intro k
  by_cases hk : k = g
  ·right; rw [hk]; exact hsz
  left; simp [hk]
 ·intro k y hy
  by_cases hk : k = g
  ·subst hk; simp at hy; subst hy; exact ho
  simp [hk] at hy
 intro k y hy
 have := hs k y hy
 exact (hb.block k (Array.getElem?_eq_some_iff.1 this).1).trans this
def Fresh (n : Nat) (o : Obj) (v : Value) (X : World) : Prop := ∃ g, v = .pointer (some ⟨g, 0, .none⟩) ∧ n ≤ g ∧ X.heap[g]? = some o
theorem Fresh.keep {n : Nat} {o : Obj} : Keep (Fresh n o) := fun v w w' ⟨g, h1, h2, h3⟩ k =>
 ⟨g, h1, h2, (k.block g (Array.getElem?_eq_some_iff.1 h3).1).trans h3⟩
end Go.Proofs.YtjdebgbiockafaaGreatDoor
