/- The Go functions of flash: what each does. -/
import Derived.Test.YtjmgnfpcieofkaaRows
import Derived.Test.YtjmgnfpcieofkaaFlashSpec
import Derived.Test.YtjmgnfpcieofkaaGBase
import Derived.Handy
namespace Go.Proofs.Ytjmgnfpcieofkaa
open Go.ChangeShapes Go.WideShapes Go.ChangeAt Go.RowKit
set_option linter.unusedVariables false

abbrev ownBy (v : Value) (l : List UInt8) : SP := own 5 1 v l.length (vbs l)
abbrev ownInts (v : Value) (l : List Nat) : SP := own 3 1 v l.length (l.map fun n => .int .i64 ((n : Nat) : Int))
def flCells (vb vw : Value) (s : FlS) : Array Value := #[vb, vw, .int .i64 (s.steps : Int), .int .i64 (s.lf : Int), .int .i64 (s.lt : Int), .bool s.off, .bool s.armed, .int .i64 (s.left : Int), .int .u32 (s.tear : Int)]
/-- a flash in memory -/
def Flash (p : Nat) (s : FlS) : SP := ex fun x : Value × Value => blk p (.cells (flCells x.1 x.2 s) 96 (0, 0)) * (ownBy x.1 s.B * ownInts x.2 s.worn)

theorem Flash.open {p : Nat} {s : FlS} {F : SP} {w : World} (h : (Flash p s * F).on w) :
    ∃ vb vw, (blk p (.cells (flCells vb vw s) 96 (0, 0)) * ((ownBy vb s.B * ownInts vw s.worn) * F)).on w := by
  obtain ⟨⟨vb, vw⟩, h⟩ := on_ex_mul.1 h
  exact ⟨vb, vw, by rw [← SP.mul_assoc]; exact h⟩
theorem Flash.shut {p : Nat} {s : FlS} {F : SP} {w : World} {vb vw : Value} (h : (blk p (.cells (flCells vb vw s) 96 (0, 0)) * ((ownBy vb s.B * ownInts vw s.worn) * F)).on w) : (Flash p s * F).on w :=
  on_ex_mul.2 ⟨(vb, vw), by rw [SP.mul_assoc]; exact h⟩

set_option maxHeartbeats 1000000 in
theorem step_any (p : Nat) (s : FlS) (F : SP) (w : World) (h : (Flash p s * F).on w) (ok : s.Ok) (hst : s.steps ≤ 1099511627776) :
    Calls Try.prog 82 #[.pointer (some ⟨p, 0, Option.none⟩)] w fun e w' => e = .returned (.int .u32 (s.mask : Int)) ∧ (Flash p s.step * F).on w' ∧ Str w w' := by
  obtain ⟨vb, vw, h⟩ := Flash.open h
  have hb := on_blk_mul h
  have H := hide h
  clear h
  have hl := ok.left
  have ht := ok.tear
  have c2 := cell_of_row w p 2 _ _ _ hb
  have c5 := cell_of_row w p 5 _ _ _ hb
  have c6 := cell_of_row w p 6 _ _ _ hb
  have c7 := cell_of_row w p 7 _ _ _ hb
  have c8 := cell_of_row w p 8 _ _ _ hb
  have fr := fun j => frozen_of_row w p j _ _ hb
  have hlt := block_lt_of_cell c2
  simp only [flCells] at c2 c5 c6 c7 c8
  have Hb := hide hb
  clear hb
  cases ha : s.armed with
  | false =>
    rw [ha] at c6
    have HM := hide (show s.mask = 4294967295 by simp [FlS.mask, FlS.fails, ha])
    have HS := hide (show s.step = { s with left := s.left, steps := s.steps + 1 } by simp [FlS.step, FlS.fails, ha])
    clear ha
    go_enter Try.func82, Try.ntmps82
    go_wp2
    go_ret
    refine ⟨by rw [HM.out]; rfl, Flash.shut (vb := vb) (vw := vw) ?_, (Str.refl _).setCell _ _⟩
    rw [HS.out]
    exact H.out.setCell (i := 2) _
  | true =>
    rw [ha] at c6
    by_cases hz : s.left = 0
    · have e0 : ((s.left : Int) == 0) = true := by rw [hz]; rfl
      have HM := hide (show s.mask = s.tear by simp [FlS.mask, FlS.fails, ha, hz])
      have HS := hide (show s.step = { s with armed := false, off := true } by simp [FlS.step, FlS.fails, ha, hz])
      clear ha hz
      go_enter Try.func82, Try.ntmps82
      go_wp2
      go_ret
      refine ⟨by rw [HM.out]; rfl, Flash.shut (vb := vb) (vw := vw) ?_, ((Str.refl _).setCell _ _).setCell _ _⟩
      rw [HS.out]
      exact (H.out.setCell (i := 6) _).setCell (i := 5) _
    · have e0 : ((s.left : Int) == 0) = false := by rw [beq_eq_false_iff_ne]; omega
      have h1 : 1 ≤ s.left := by omega
      have HM := hide (show s.mask = 4294967295 by simp [FlS.mask, FlS.fails, ha, hz])
      have HS := hide (show s.step = { s with left := s.left - 1, steps := s.steps + 1 } by simp [FlS.step, FlS.fails, ha, hz])
      have HL := hide (show (s.left : Int) - 1 = ((s.left - 1 : Nat) : Int) by omega)
      clear ha hz
      go_enter Try.func82, Try.ntmps82
      go_wp2
      go_ret
      refine ⟨by rw [HM.out]; rfl, Flash.shut (vb := vb) (vw := vw) ?_, ((Str.refl _).setCell _ _).setCell _ _⟩
      rw [HS.out]
      have := (H.out.setCell (i := 7) (.int .i64 ((s.left : Int) - 1))).setCell (i := 2) (.int .i64 ((s.steps : Int) + 1))
      rw [HL.out] at this ⊢
      exact this

def ErrN (n : Nat) : Value := .int .i64 (n : Int)
set_option maxHeartbeats 1000000 in
theorem ready_any (p : Nat) (s : FlS) (F : SP) (w : World) (h : (Flash p s * F).on w) :
    Calls Try.prog 51 #[.pointer (some ⟨p, 0, Option.none⟩)] w fun e w' => e = .returned (.int .i64 (if s.off then 5 else 0)) ∧ w = w' := by
  obtain ⟨vb, vw, h⟩ := Flash.open h
  have hb := on_blk_mul h
  have c5 := cell_of_row w p 5 _ _ _ hb
  simp only [flCells] at c5
  clear hb h
  cases ho : s.off with
  | true =>
    rw [ho] at c5
    go_enter Try.func51, Try.ntmps51
    go_wp2
    go_ret
    exact ⟨rfl, rfl⟩
  | false =>
    rw [ho] at c5
    go_enter Try.func51, Try.ntmps51
    go_wp2
    go_ret
    exact ⟨rfl, rfl⟩

def FlS.inside (s : FlS) (a n : Int) : Bool := decide (0 ≤ n) && decide (0 ≤ a) && decide (a ≤ s.B.length) && decide (n ≤ s.B.length - a)
set_option maxHeartbeats 1000000 in
theorem inside_any (p : Nat) (s : FlS) (F : SP) (w : World) (h : (Flash p s * F).on w) (ok : s.Ok) (a n : Int) (ha : -9223372036854775808 ≤ a ∧ a ≤ 9223372036854775807) (hn : -9223372036854775808 ≤ n ∧ n ≤ 9223372036854775807) :
    Calls Try.prog 52 #[.pointer (some ⟨p, 0, Option.none⟩), .int .i64 a, .int .i64 n] w fun e w' => e = .returned (.bool (s.inside a n)) ∧ w = w' := by
  obtain ⟨vb, vw, h⟩ := Flash.open h
  have hb := on_blk_mul h
  have c0 := cell_of_row w p 0 _ _ _ hb
  simp only [flCells] at c0
  have hB : (own 5 1 vb s.B.length (vbs s.B)  * (ownInts vw s.worn * F)).on w := by have := h.right; rw [SP.mul_assoc] at this; exact this
  obtain ⟨ab, cb, rfl, _⟩ := own_value hB
  have hp := ok.pages
  have hm := ok.most
  have hlen : s.B.length ≤ 16384 := by omega
  obtain ⟨ha1, ha2⟩ := ha
  obtain ⟨hn1, hn2⟩ := hn
  clear hb h hB hp hm
  by_cases h1 : 0 ≤ n
  · by_cases h2 : 0 ≤ a
    · by_cases h3 : a ≤ s.B.length
      · have HI := hide (show s.inside a n = decide (n ≤ s.B.length - a) by simp [FlS.inside, h1, h2, h3])
        go_enter Try.func52, Try.ntmps52
        go_wp2
        go_ret
        exact ⟨by rw [HI.out]; rfl, rfl⟩
      · have HI := hide (show s.inside a n = false by simp [FlS.inside, h3])
        have hd : decide (a ≤ (s.B.length : Int)) = false := by simpa using h3
        go_enter Try.func52, Try.ntmps52
        go_wp2
        go_ret
        exact ⟨by rw [HI.out]; rfl, rfl⟩
    · have HI := hide (show s.inside a n = false by simp [FlS.inside, h2])
      have hd : decide (0 ≤ a) = false := by simpa using h2
      go_enter Try.func52, Try.ntmps52
      go_wp2
      go_ret
      exact ⟨by rw [HI.out]; rfl, rfl⟩
  · have HI := hide (show s.inside a n = false by simp [FlS.inside, h1])
    have hd : decide (0 ≤ n) = false := by simpa using h1
    go_enter Try.func52, Try.ntmps52
    go_wp2
    go_ret
    exact ⟨by rw [HI.out]; rfl, rfl⟩

def FlS.locked (s : FlS) (page : Int) : Bool := decide ((s.lf : Int) ≤ page) && decide (page < s.lt)
set_option maxHeartbeats 1000000 in
theorem locked_any (p : Nat) (s : FlS) (F : SP) (w : World) (h : (Flash p s * F).on w) (page : Int) :
    Calls Try.prog 81 #[.pointer (some ⟨p, 0, Option.none⟩), .int .i64 page] w fun e w' => e = .returned (.bool (s.locked page)) ∧ w = w' := by
  obtain ⟨vb, vw, h⟩ := Flash.open h
  have hb := on_blk_mul h
  have c3 := cell_of_row w p 3 _ _ _ hb
  have c4 := cell_of_row w p 4 _ _ _ hb
  simp only [flCells] at c3 c4
  clear hb h
  by_cases h1 : (s.lf : Int) ≤ page
  · have HI := hide (show s.locked page = decide (page < s.lt) by simp [FlS.locked, h1])
    go_enter Try.func81, Try.ntmps81
    go_wp2
    go_ret
    exact ⟨by rw [HI.out]; rfl, rfl⟩
  · have HI := hide (show s.locked page = false by simp [FlS.locked, h1])
    have hd : decide ((s.lf : Int) ≤ page) = false := by simpa using h1
    go_enter Try.func81, Try.ntmps81
    go_wp2
    go_ret
    exact ⟨by rw [HI.out]; rfl, rfl⟩
end Go.Proofs.Ytjmgnfpcieofkaa
