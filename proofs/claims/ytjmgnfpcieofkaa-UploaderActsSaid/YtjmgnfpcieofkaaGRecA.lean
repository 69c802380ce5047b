/- LAID TOGETHER: RecMath, Rec, Rec2, Rec3, Rec4. -/
import Derived.WalkKit
import Derived.Test.YtjmgnfpcieofkaaGCrc
import Derived.Test.YtjmgnfpcieofkaaGBase
import Derived.Deep.OwnRows
import Derived.Laws.CopyOwn
/- Numbers as four bytes, and what is put where. No Go function is spoken of. -/
namespace Go.Proofs.Ytjmgnfpcieofkaa

/-- a byte of a number -/
def b4 (n k : Nat) : UInt8 := UInt8.ofNat (n / 2 ^ (8 * k) % 256)
theorem b4_toNat (n k : Nat) : (b4 n k).toNat = n / 2 ^ (8 * k) % 256 := by
  unfold b4
  generalize n / 2 ^ (8 * k) = m
  simp
def wordB (n : Nat) : List UInt8 := [b4 n 0, b4 n 1, b4 n 2, b4 n 3]
theorem wordB_len (n : Nat) : (wordB n).length = 4 := rfl
def numS (l : List UInt8) (at' : Nat) : Nat → Nat
  | 0 => 0
  | k + 1 => numS l at' k + (l.getD (at' + k) 0).toNat * 2 ^ (8 * k)
theorem numS_lt (l : List UInt8) (at' : Nat) : ∀ k, numS l at' k < 2 ^ (8 * k) := by
  intro k
  induction k with
  | zero => simp [numS]
  | succ k ih =>
    have hc := UInt8.toNat_lt (l.getD (at' + k) 0)
    simp only [numS]
    rw [show 8 * (k + 1) = 8 * k + 8 by omega, Nat.pow_add]
    have : (l.getD (at' + k) 0).toNat * 2 ^ (8 * k) ≤ 255 * 2 ^ (8 * k) := Nat.mul_le_mul_right _ (by omega)
    omega
theorem numS_word (A B : List UInt8) (n : Nat) (h : n < 4294967296) (i : Nat) (hi : i = A.length) : numS (A ++ (wordB n ++ B)) i 4 = n := by
  subst hi
  have g : ∀ j (hj : j < 4), (A ++ (wordB n ++ B)).getD (A.length + j) 0 = b4 n j := by
    intro j hj
    rw [List.getD_eq_getElem?_getD, List.getElem?_append_right (by omega), Nat.add_sub_cancel_left, List.getElem?_append_left (by rw [wordB_len]; omega)]
    match j, hj with
    | 0, _ => rfl
    | 1, _ => rfl
    | 2, _ => rfl
    | 3, _ => rfl
  simp only [numS]
  rw [show A.length + 0 = A.length + 0 from rfl, g 0 (by omega), g 1 (by omega), g 2 (by omega), g 3 (by omega), b4_toNat, b4_toNat, b4_toNat, b4_toNat]
  simp only [Nat.mul_zero, Nat.pow_zero, Nat.div_one, Nat.mul_one, Nat.zero_add]
  omega
end Go.Proofs.Ytjmgnfpcieofkaa

/- The Go functions of record: numbers that are put and read, the check sum, and equal bytes. -/
namespace Go.Proofs.Ytjmgnfpcieofkaa
open Go.ChangeShapes Go.WideShapes Go.ChangeAt Go.RowKit
set_option linter.unusedVariables false

abbrev ownR (v : Value) (l : List UInt8) : SP := own 5 1 v l.length (vbs l)
theorem infoR : (Try.prog.info? 5).map (fun i => (i.zero, i.size, i.bytes)) = some (some (.int .u8 0), 1, 1) := by kernel_rfl

end Go.Proofs.Ytjmgnfpcieofkaa

/- The Go functions of record: which may be, the check sum, equal bytes; the document's own. -/
namespace Go.Proofs.Ytjmgnfpcieofkaa
open Go.ChangeShapes Go.WideShapes Go.ChangeAt Go.RowKit
set_option linter.unusedVariables false

structure RecS where
  seq : Nat
  floor : Nat
  bytes : Nat
  sum : Nat
  phase : UInt8
  done : Nat
  init : List UInt8
structure RecS.Ok (s : RecS) : Prop where
  seq : s.seq < 4294967296
  floor : s.floor < 4294967296
  bytes : s.bytes < 4294967296
  sum : s.sum < 4294967296
  done : s.done < 4294967296
  init : s.init.length ≤ 1000000
abbrev u32v (n : Nat) : Value := .int .u32 (n : Int)
abbrev recCells (s : RecS) (iv : Value) : Array Value := #[u32v s.seq, u32v s.floor, u32v s.bytes, u32v s.sum, vb s.phase, u32v s.done, iv]
/-- the document's own -/
abbrev refCells (s : RecS) (iv : Value) : Array Value := #[u32v s.seq, u32v s.floor, u32v s.bytes, u32v s.sum, u32v s.done, vb s.phase, iv]
def RecS.right (s : RecS) : Bool := decide (s.bytes ≤ 4096 ∧ s.done ≤ 4096 ∧ s.phase.toNat ≤ 2 ∧ s.init.length ≤ 128 ∧ (s.phase.toNat ≠ 0 ∨ s.done = 0 ∧ s.init.length = 0))

theorem alloc1 {w : World} {o : Obj} : Below w.heap.size w (w.alloc o) := (Below.refl _ _).alloc (Nat.le_refl _) o

end Go.Proofs.Ytjmgnfpcieofkaa

/- record: equal bytes, and the check sum. -/
namespace Go.Proofs.Ytjmgnfpcieofkaa
open Go.ChangeShapes Go.WideShapes Go.ChangeAt Go.RowKit
set_option linter.unusedVariables false
set_option linter.unusedSimpArgs false

theorem equal_any (v1 v2 : Value) (l1 l2 : List UInt8) (w : World) (h1 : IsBytes w v1 l1) (h2 : IsBytes w v2 l2) :
    Calls Try.prog 56 #[v1, v2] w fun e w' => e = .returned (.bool (decide (l1 = l2))) ∧ w = w' := by
  have hsu := Try.underlying33
  have hsb := Try.underlying5
  have hst := Try.underlying9
  obtain ⟨a1, c1, rfl, _, _, hl1, _⟩ := h1
  obtain ⟨a2, c2, rfl, _, _, hl2, _⟩ := h2
  have k1 := run_string_of (P := Try.prog) (w := w) (c := c1) hsu hsb hl1 _ hst
  have k2 := run_string_of (P := Try.prog) (w := w) (c := c2) hsu hsb hl2 _ hst
  clear hl1 hl2
  by_cases he : l1 = l2
  · subst he
    have hd : decide (l1 = l1) = true := by simp
    rw [hd]
    go_enter Try.func56, Try.ntmps56
    go_wp2_with fail
    go_ret
    exact ⟨rfl, rfl⟩
  · have hd : decide (l1 = l2) = false := by simpa using he
    rw [hd]
    have hs : (l1 == l2) = false := by rw [beq_eq_false_iff_ne]; exact he
    go_enter Try.func56, Try.ntmps56
    go_wp2_with fail
    go_ret
    exact ⟨rfl, rfl⟩
/-- the check sum of a record's bytes -/
def chkN (l : List UInt8) : Nat := if crcUpd 0 l = 4294967295 then 0 else crcUpd 0 l
/-- a record's bytes ahead of the check sum -/
def recHead (s : RecS) : List UInt8 := wordB 827216706 ++ wordB s.seq ++ wordB s.floor ++ wordB s.bytes ++ wordB s.sum ++ [s.phase, UInt8.ofNat s.init.length, 0, 0] ++ wordB s.done ++ s.init ++ List.replicate (128 - s.init.length) 0
def recBytes (s : RecS) : List UInt8 := recHead s ++ wordB (chkN (recHead s))
/-- how an encoding ends -/
def RecEnd (s : RecS) (w : World) (e : Ending) (w' : World) : Prop := (s.right = true ∧ ∃ out, e = .returned (.tuple #[out, .int .i64 0]) ∧ (ownR out (recBytes s) * all w).on w' ∧ Str w w') ∨
  (s.right = false ∧ e = .returned (.tuple #[.slice Option.none 0 0, .int .i64 1]) ∧ Below w.heap.size w w')

end Go.Proofs.Ytjmgnfpcieofkaa

/- record: the document's own numbers, check sum and bytes. -/
namespace Go.Proofs.Ytjmgnfpcieofkaa
open Go.ChangeShapes Go.WideShapes Go.ChangeAt Go.RowKit
set_option linter.unusedVariables false
set_option linter.unusedSimpArgs false

end Go.Proofs.Ytjmgnfpcieofkaa
