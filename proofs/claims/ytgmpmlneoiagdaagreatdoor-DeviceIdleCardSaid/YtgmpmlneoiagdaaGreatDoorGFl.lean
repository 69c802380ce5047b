/- LAID TOGETHER: FlashSpec, Flash, Flash2, Flash3, Flash4, Flash5. -/
import Derived.WalkKit
import Derived.Test.YtgmpmlneoiagdaaGreatDoorRows
import Derived.Test.YtgmpmlneoiagdaaGreatDoorGBase
import Derived.Handy
import Derived.BigRegion
import Derived.Deep.OwnRows
/- Flash, as lists of bytes: what a step, an erasure, a programming do. No Go function is spoken of. -/
namespace Go.Proofs.YtgmpmlneoiagdaaGreatDoor

structure FlS where
  B : List UInt8
  worn : List Nat
  steps : Nat
  lf : Nat
  lt : Nat
  off : Bool
  armed : Bool
  left : Nat
  tear : Nat

/-- does the power go in this step? -/
def FlS.fails (s : FlS) : Bool := s.armed && s.left == 0
/-- what of the step is done -/
def FlS.mask (s : FlS) : Nat := if s.fails then s.tear else 4294967295
/-- behind a step -/
def FlS.step (s : FlS) : FlS := if s.fails then { s with armed := false, off := true } else { s with left := if s.armed then s.left - 1 else s.left, steps := s.steps + 1 }
/-- how far the numbers may go -/
structure FlS.Ok (s : FlS) : Prop where
  pages : s.B.length = 256 * s.worn.length
  most : 1 ≤ s.worn.length ∧ s.worn.length ≤ 64
  lf : s.lf ≤ 64
  lt : s.lt ≤ 64
  left : s.left ≤ 9223372036854775807
  tear : s.tear < 4294967296
/-- a byte, some of whose bits are to be 0, if they are done -/
def dropByte (was want : UInt8) (done : Nat) : UInt8 := UInt8.ofNat (was.toNat &&& (want.toNat ||| (255 - done % 256)))

theorem FlS.step_B (s : FlS) : s.step.B = s.B := by unfold FlS.step; split <;> rfl
theorem FlS.step_worn (s : FlS) : s.step.worn = s.worn := by unfold FlS.step; split <;> rfl
theorem FlS.step_ok {s : FlS} (h : s.Ok) : s.step.Ok := by
  unfold FlS.step
  split
  · exact ⟨h.pages, h.most, h.lf, h.lt, h.left, h.tear⟩
  · refine ⟨h.pages, h.most, h.lf, h.lt, ?_, h.tear⟩
    have := h.left
    simp only
    split <;> omega
theorem FlS.step_steps (s : FlS) : s.step.steps ≤ s.steps + 1 := by unfold FlS.step; split <;> simp
theorem FlS.mask_lt {s : FlS} (h : s.Ok) : s.mask < 4294967296 := by
  unfold FlS.mask; split
  · exact h.tear
  · omega

theorem dropByte_toNat (was want : UInt8) (done : Nat) : (dropByte was want done).toNat = was.toNat &&& (want.toNat ||| (255 - done % 256)) := by
  have h : was.toNat &&& (want.toNat ||| (255 - done % 256)) < 256 := Nat.lt_of_le_of_lt Nat.and_le_left (UInt8.toNat_lt was)
  unfold dropByte
  generalize was.toNat &&& (want.toNat ||| (255 - done % 256)) = z at h ⊢
  simp; omega
/-- behind k bytes of a word -/
def progK (B : List UInt8) (a : Nat) (lb : List UInt8) (mask : Nat) : Nat → List UInt8
  | 0 => B
  | k + 1 => (progK B a lb mask k).set (a + k) (dropByte (B.getD (a + k) 0) (lb.getD k 0) (mask / 2 ^ (8 * k)))
/-- is one of the first k bytes another one than it should be? -/
def badK (B : List UInt8) (a : Nat) (lb : List UInt8) (mask : Nat) : Nat → Bool
  | 0 => false
  | k + 1 => badK B a lb mask k || (dropByte (B.getD (a + k) 0) (lb.getD k 0) (mask / 2 ^ (8 * k)) != lb.getD k 0)
theorem progK_length (B : List UInt8) (a : Nat) (lb : List UInt8) (mask k : Nat) : (progK B a lb mask k).length = B.length := by
  induction k with
  | zero => rfl
  | succ k ih => simp [progK, ih]
theorem progK_later (B : List UInt8) (a : Nat) (lb : List UInt8) (mask k j : Nat) (h : k ≤ j) : (progK B a lb mask k).getD (a + j) 0 = B.getD (a + j) 0 := by
  induction k with
  | zero => rfl
  | succ k ih =>
    have := ih (by omega)
    simp only [progK, List.getD_eq_getElem?_getD] at this ⊢
    rw [List.getElem?_set_ne (by omega), this]
/-- a word is programmed: the flash, and the error -/
def FlS.word (s : FlS) (a : Nat) (lb : List UInt8) : FlS := { s.step with B := progK s.B a lb s.mask 4 }
def FlS.wordErr (s : FlS) (a : Nat) (lb : List UInt8) : Nat := if s.step.off then 5 else if badK s.B a lb s.mask 4 then 6 else 0
theorem FlS.word_ok {s : FlS} (h : s.Ok) (a : Nat) (lb : List UInt8) : (s.word a lb).Ok := by
  have h' := FlS.step_ok h
  refine ⟨?_, h'.most, h'.lf, h'.lt, h'.left, h'.tear⟩
  have := h'.pages
  rw [FlS.step_B] at this
  simp only [FlS.word, progK_length]
  exact this
end Go.Proofs.YtgmpmlneoiagdaaGreatDoor

/- The Go functions of flash: what each does. -/
namespace Go.Proofs.YtgmpmlneoiagdaaGreatDoor
open Go.ChangeShapes Go.WideShapes Go.ChangeAt Go.RowKit
set_option linter.unusedVariables false

abbrev ownBy (v : Value) (l : List UInt8) : SP := own 5 1 v l.length (vbs l)
abbrev ownInts (v : Value) (l : List Nat) : SP := own 3 1 v l.length (l.map fun n => .int .i64 ((n : Nat) : Int))
def flCells (vb vw : Value) (s : FlS) : Array Value := #[vb, vw, .int .i64 (s.steps : Int), .int .i64 (s.lf : Int), .int .i64 (s.lt : Int), .bool s.off, .bool s.armed, .int .i64 (s.left : Int), .int .u32 (s.tear : Int)]
/-- a flash in memory -/
def Flash (p : Nat) (s : FlS) : SP := ex fun x : Value × Value => blk p (.cells (flCells x.1 x.2 s) 53 (0, 0)) * (ownBy x.1 s.B * ownInts x.2 s.worn)

theorem Flash.open {p : Nat} {s : FlS} {F : SP} {w : World} (h : (Flash p s * F).on w) :
    ∃ vb vw, (blk p (.cells (flCells vb vw s) 53 (0, 0)) * ((ownBy vb s.B * ownInts vw s.worn) * F)).on w := by
  obtain ⟨⟨vb, vw⟩, h⟩ := on_ex_mul.1 h
  exact ⟨vb, vw, by rw [← SP.mul_assoc]; exact h⟩
theorem Flash.shut {p : Nat} {s : FlS} {F : SP} {w : World} {vb vw : Value} (h : (blk p (.cells (flCells vb vw s) 53 (0, 0)) * ((ownBy vb s.B * ownInts vw s.worn) * F)).on w) : (Flash p s * F).on w :=
  on_ex_mul.2 ⟨(vb, vw), by rw [SP.mul_assoc]; exact h⟩

set_option maxHeartbeats 1000000 in
theorem step_any (p : Nat) (s : FlS) (F : SP) (w : World) (h : (Flash p s * F).on w) (ok : s.Ok) (hst : s.steps ≤ 1099511627776) :
    Calls Tryz.prog 31 #[.pointer (some ⟨p, 0, Option.none⟩)] w fun e w' => e = .returned (.int .u32 (s.mask : Int)) ∧ (Flash p s.step * F).on w' ∧ Str w w' := by
  obtain ⟨vb, vw, h⟩ := Flash.open h
  have hb := on_blk_mul h
  have H := hide h
  clear h
  have hl := ok.left
  have ht := ok.tear
  have c2 := cell_of_row w p 2 _ _ _ hb
  have c5 := cell_of_row w p 5 _ _ _ hb
  have c6 := cell_of_row w p 6 _ _ _ hb
  have c7 := cell_of_row w p 7 _ _ _ hb
  have c8 := cell_of_row w p 8 _ _ _ hb
  have fr := fun j => frozen_of_row w p j _ _ hb
  have hlt := block_lt_of_cell c2
  simp only [flCells] at c2 c5 c6 c7 c8
  have Hb := hide hb
  clear hb
  cases ha : s.armed with
  | false =>
    rw [ha] at c6
    have HM := hide (show s.mask = 4294967295 by simp [FlS.mask, FlS.fails, ha])
    have HS := hide (show s.step = { s with left := s.left, steps := s.steps + 1 } by simp [FlS.step, FlS.fails, ha])
    clear ha
    go_enter Tryz.func31, Tryz.ntmps31
    go_wp2
    go_ret
    refine ⟨by rw [HM.out]; rfl, Flash.shut (vb := vb) (vw := vw) ?_, (Str.refl _).setCell _ _⟩
    rw [HS.out]
    exact H.out.setCell (i := 2) _
  | true =>
    rw [ha] at c6
    by_cases hz : s.left = 0
    · have e0 : ((s.left : Int) == 0) = true := by rw [hz]; rfl
      have HM := hide (show s.mask = s.tear by simp [FlS.mask, FlS.fails, ha, hz])
      have HS := hide (show s.step = { s with armed := false, off := true } by simp [FlS.step, FlS.fails, ha, hz])
      clear ha hz
      go_enter Tryz.func31, Tryz.ntmps31
      go_wp2
      go_ret
      refine ⟨by rw [HM.out]; rfl, Flash.shut (vb := vb) (vw := vw) ?_, ((Str.refl _).setCell _ _).setCell _ _⟩
      rw [HS.out]
      exact (H.out.setCell (i := 6) _).setCell (i := 5) _
    · have e0 : ((s.left : Int) == 0) = false := by rw [beq_eq_false_iff_ne]; omega
      have h1 : 1 ≤ s.left := by omega
      have HM := hide (show s.mask = 4294967295 by simp [FlS.mask, FlS.fails, ha, hz])
      have HS := hide (show s.step = { s with left := s.left - 1, steps := s.steps + 1 } by simp [FlS.step, FlS.fails, ha, hz])
      have HL := hide (show (s.left : Int) - 1 = ((s.left - 1 : Nat) : Int) by omega)
      clear ha hz
      go_enter Tryz.func31, Tryz.ntmps31
      go_wp2
      go_ret
      refine ⟨by rw [HM.out]; rfl, Flash.shut (vb := vb) (vw := vw) ?_, ((Str.refl _).setCell _ _).setCell _ _⟩
      rw [HS.out]
      have := (H.out.setCell (i := 7) (.int .i64 ((s.left : Int) - 1))).setCell (i := 2) (.int .i64 ((s.steps : Int) + 1))
      rw [HL.out] at this ⊢
      exact this

set_option maxHeartbeats 1000000 in
theorem ready_any (p : Nat) (s : FlS) (F : SP) (w : World) (h : (Flash p s * F).on w) :
    Calls Tryz.prog 17 #[.pointer (some ⟨p, 0, Option.none⟩)] w fun e w' => e = .returned (.int .i64 (if s.off then 5 else 0)) ∧ w = w' := by
  obtain ⟨vb, vw, h⟩ := Flash.open h
  have hb := on_blk_mul h
  have c5 := cell_of_row w p 5 _ _ _ hb
  simp only [flCells] at c5
  clear hb h
  cases ho : s.off with
  | true =>
    rw [ho] at c5
    go_enter Tryz.func17, Tryz.ntmps17
    go_wp2
    go_ret
    exact ⟨rfl, rfl⟩
  | false =>
    rw [ho] at c5
    go_enter Tryz.func17, Tryz.ntmps17
    go_wp2
    go_ret
    exact ⟨rfl, rfl⟩

def FlS.inside (s : FlS) (a n : Int) : Bool := decide (0 ≤ n) && decide (0 ≤ a) && decide (a ≤ s.B.length) && decide (n ≤ s.B.length - a)
set_option maxHeartbeats 1000000 in
theorem inside_any (p : Nat) (s : FlS) (F : SP) (w : World) (h : (Flash p s * F).on w) (ok : s.Ok) (a n : Int) (ha : -9223372036854775808 ≤ a ∧ a ≤ 9223372036854775807) (hn : -9223372036854775808 ≤ n ∧ n ≤ 9223372036854775807) :
    Calls Tryz.prog 18 #[.pointer (some ⟨p, 0, Option.none⟩), .int .i64 a, .int .i64 n] w fun e w' => e = .returned (.bool (s.inside a n)) ∧ w = w' := by
  obtain ⟨vb, vw, h⟩ := Flash.open h
  have hb := on_blk_mul h
  have c0 := cell_of_row w p 0 _ _ _ hb
  simp only [flCells] at c0
  have hB : (own 5 1 vb s.B.length (vbs s.B)  * (ownInts vw s.worn * F)).on w := by have := h.right; rw [SP.mul_assoc] at this; exact this
  obtain ⟨ab, cb, rfl, _⟩ := own_value hB
  have hp := ok.pages
  have hm := ok.most
  have hlen : s.B.length ≤ 16384 := by omega
  obtain ⟨ha1, ha2⟩ := ha
  obtain ⟨hn1, hn2⟩ := hn
  clear hb h hB hp hm
  by_cases h1 : 0 ≤ n
  · by_cases h2 : 0 ≤ a
    · by_cases h3 : a ≤ s.B.length
      · have HI := hide (show s.inside a n = decide (n ≤ s.B.length - a) by simp [FlS.inside, h1, h2, h3])
        go_enter Tryz.func18, Tryz.ntmps18
        go_wp2
        go_ret
        exact ⟨by rw [HI.out]; rfl, rfl⟩
      · have HI := hide (show s.inside a n = false by simp [FlS.inside, h3])
        have hd : decide (a ≤ (s.B.length : Int)) = false := by simpa using h3
        go_enter Tryz.func18, Tryz.ntmps18
        go_wp2
        go_ret
        exact ⟨by rw [HI.out]; rfl, rfl⟩
    · have HI := hide (show s.inside a n = false by simp [FlS.inside, h2])
      have hd : decide (0 ≤ a) = false := by simpa using h2
      go_enter Tryz.func18, Tryz.ntmps18
      go_wp2
      go_ret
      exact ⟨by rw [HI.out]; rfl, rfl⟩
  · have HI := hide (show s.inside a n = false by simp [FlS.inside, h1])
    have hd : decide (0 ≤ n) = false := by simpa using h1
    go_enter Tryz.func18, Tryz.ntmps18
    go_wp2
    go_ret
    exact ⟨by rw [HI.out]; rfl, rfl⟩

def FlS.locked (s : FlS) (page : Int) : Bool := decide ((s.lf : Int) ≤ page) && decide (page < s.lt)
set_option maxHeartbeats 1000000 in
theorem locked_any (p : Nat) (s : FlS) (F : SP) (w : World) (h : (Flash p s * F).on w) (page : Int) :
    Calls Tryz.prog 19 #[.pointer (some ⟨p, 0, Option.none⟩), .int .i64 page] w fun e w' => e = .returned (.bool (s.locked page)) ∧ w = w' := by
  obtain ⟨vb, vw, h⟩ := Flash.open h
  have hb := on_blk_mul h
  have c3 := cell_of_row w p 3 _ _ _ hb
  have c4 := cell_of_row w p 4 _ _ _ hb
  simp only [flCells] at c3 c4
  clear hb h
  by_cases h1 : (s.lf : Int) ≤ page
  · have HI := hide (show s.locked page = decide (page < s.lt) by simp [FlS.locked, h1])
    go_enter Tryz.func19, Tryz.ntmps19
    go_wp2
    go_ret
    exact ⟨by rw [HI.out]; rfl, rfl⟩
  · have HI := hide (show s.locked page = false by simp [FlS.locked, h1])
    have hd : decide ((s.lf : Int) ≤ page) = false := by simpa using h1
    go_enter Tryz.func19, Tryz.ntmps19
    go_wp2
    go_ret
    exact ⟨by rw [HI.out]; rfl, rfl⟩
end Go.Proofs.YtgmpmlneoiagdaaGreatDoor

/- A word of flash is programmed. -/
namespace Go.Proofs.YtgmpmlneoiagdaaGreatDoor
open Go.ChangeShapes Go.WideShapes Go.ChangeAt Go.RowKit
set_option linter.unusedVariables false

theorem or_lt8 {a b : Nat} (ha : a < 256) (hb : b < 256) : a ||| b < 256 := Nat.or_lt_two_pow (n := 8) (by omega) (by omega)
/-- the flash, its parts seen one by one -/
theorem Flash.parts {p : Nat} {s : FlS} {F : SP} {w : World} (h : (Flash p s * F).on w) (ok : s.Ok) :
    ∃ g cap vw, s.B.length ≤ cap ∧ cap ≤ maxLen ∧ (blk p (.cells (flCells (.slice (some ⟨g, 0, Option.none⟩) s.B.length cap) vw s) 53 (0, 0)) * (ownBy (.slice (some ⟨g, 0, Option.none⟩) s.B.length cap) s.B * (ownInts vw s.worn * F))).on w := by
  obtain ⟨vb, vw, h⟩ := Flash.open h
  rw [SP.mul_assoc] at h
  have h1 := ok.pages
  have h2 := ok.most
  obtain ⟨g, cap, rfl, h3, h4⟩ := own_block h.right (by omega)
  exact ⟨g, cap, vw, h3, h4, h⟩
theorem Flash.ofParts {p : Nat} {s : FlS} {F : SP} {w : World} {vb vw : Value} (h : (blk p (.cells (flCells vb vw s) 53 (0, 0)) * (ownBy vb s.B * (ownInts vw s.worn * F))).on w) : (Flash p s * F).on w := by
  rw [← SP.mul_assoc (ownBy vb s.B)] at h
  exact Flash.shut h

def WordRel (p : Nat) (s : FlS) (F : SP) (w : World) (a : Nat) (lb : List UInt8) (g cap : Nat) (vw : Value) (e i : Value) (wr : World) : Prop :=
  ∃ k : Nat, k ≤ 4 ∧ i = .int .i64 k ∧ e = .int .i64 ((if badK s.B a lb s.mask k then 6 else 0 : Nat) : Int) ∧
    (blk p (.cells (flCells (.slice (some ⟨g, 0, Option.none⟩) s.B.length cap) vw s.step) 53 (0, 0)) * (own 5 1 (.slice (some ⟨g, 0, Option.none⟩) s.B.length cap) s.B.length (vbs (progK s.B a lb s.mask k)) * (ownInts vw s.worn * F))).on wr ∧ Str w wr

set_option maxRecDepth 100000 in
set_option maxHeartbeats 2000000 in
theorem word_any (p : Nat) (s : FlS) (F : SP) (w : World) (h : (Flash p s * F).on w) (ok : s.Ok) (hst : s.steps ≤ 1099511627776) (a : Nat) (ha : a + 4 ≤ s.B.length) (v : Value) (lb : List UInt8) (hlb : lb.length = 4) (hrd : ∀ w, F.on w → IsBytes w v lb) :
    Calls Tryz.prog 20 #[.pointer (some ⟨p, 0, Option.none⟩), .int .i64 a, v] w fun e w' => e = .returned (.int .i64 (s.wordErr a lb : Int)) ∧ (Flash p (s.word a lb) * F).on w' ∧ Str w w' := by
  have hv := hrd w h.right
  obtain ⟨av, cv, rfl, hcv, hmv, hlv, _⟩ := hv
  obtain ⟨bv, offv, rfl⟩ := Lay.isAddr hlv 0 (by simp; omega)
  rw [hlb] at hcv ⊢
  have Hrd := hide hrd
  clear hrd hlv
  have hpg := ok.pages
  have hmo := ok.most
  have hB : s.B.length ≤ 16384 := by omega
  clear hpg hmo
  have hmask := FlS.mask_lt ok
  unfold maxLen at hmv
  go_enter Tryz.func20, Tryz.ntmps20
  go_wp2_with fail
  refine (step_any p s F _ h ok hst).mono ?_
  rintro e w1 ⟨rfl, h1, hs1⟩
  have ok1 := FlS.step_ok ok
  obtain ⟨g, cap, vw, hc1, hc2, h1⟩ := Flash.parts h1 ok1
  rw [FlS.step_B, FlS.step_worn] at h1
  rw [FlS.step_B] at hc1
  have H1 := hide h1
  have Hs1 := hide hs1
  unfold maxLen at hc2
  clear h h1 hs1 ok1
  go_wp2_with fail
  go_loopw [8, 12] (fun e i wr => WordRel p s F w a lb g cap vw e i wr) (fun _ i _ => 4 - (intOf i).toNat)
  case atStart => exact ⟨0, by omega, rfl, rfl, H1.out, Hs1.out⟩
  case round =>
    obtain ⟨k, hk, rfl, rfl, hw, hstr⟩ := hrel
    have Hw := hide hw
    have Hstr := hide hstr
    have hb := on_blk_mul hw
    have c0 := cell_of_row wr p 0 _ _ _ hb
    have c5 := cell_of_row wr p 5 _ _ _ hb
    simp only [flCells] at c0 c5
    clear hb
    by_cases hlt : k < 4
    · have hl := Hrd.out wr hw.right.right.right
      obtain ⟨_, _, he, _, _, hl, _⟩ := hl
      simp only [Value.slice.injEq] at he
      obtain ⟨rfl, _, rfl⟩ := he
      have hkl : k < lb.length := by omega
      have cv1 := Lay.cell hl k (vbs_get lb k hkl)
      have hw2 : (own 5 1 (.slice (some ⟨g, 0, Option.none⟩) s.B.length cap) s.B.length (vbs (progK s.B a lb s.mask k)) * (ownInts vw s.worn * F)).on wr := hw.right
      have hpl := progK_length s.B a lb s.mask k
      have cb := own_cell hw2 (a + k) _ (vbs_get _ (a + k) (by rw [hpl]; omega))
      have fr := own_free hw2 (a + k)
      have HK := hide (show progK s.B a lb s.mask (k + 1) = (progK s.B a lb s.mask k).set (a + k) (dropByte (s.B.getD (a + k) 0) (lb.getD k 0) (s.mask / 2 ^ (8 * k))) from rfl)
      have HE := hide (show badK s.B a lb s.mask (k + 1) = (badK s.B a lb s.mask k || (dropByte (s.B.getD (a + k) 0) (lb.getD k 0) (s.mask / 2 ^ (8 * k)) != lb.getD k 0)) from rfl)
      have hwas : (progK s.B a lb s.mask k)[a + k]'(by rw [hpl]; omega) = s.B.getD (a + k) 0 := by
        have h0 := progK_later s.B a lb s.mask k k (Nat.le_refl _)
        rw [List.getD_eq_getElem?_getD, List.getElem?_eq_getElem (by rw [hpl]; omega)] at h0
        exact h0
      have hbk : lb[k] = lb.getD k 0 := by simp [hkl]
      rw [hwas] at cb
      rw [hbk] at cv1
      have Hst := hide (own_store hw2 (j := a + k) (by omega))
      have hp : ((s.mask : Int) / 2 ^ (8 * k)) = ((s.mask / 2 ^ (8 * k) : Nat) : Int) := by simp
      have hdt := dropByte_toNat (s.B.getD (a + k) 0) (lb.getD k 0) (s.mask / 2 ^ (8 * k))
      have hwl := UInt8.toNat_lt (s.B.getD (a + k) 0)
      have hbl := UInt8.toNat_lt (lb.getD k 0)
      generalize badK s.B a lb s.mask k = bad at *
      generalize hD : dropByte (s.B.getD (a + k) 0) (lb.getD k 0) (s.mask / 2 ^ (8 * k)) = D at *
      clear hD hwas hw2
      have hbk' : vb lb[k] = vb (lb.getD k 0) := by rw [hbk]
      clear hbk
      generalize s.B.getD (a + k) 0 = was at *
      generalize lb.getD k 0 = want at *
      have hml : s.mask / 2 ^ (8 * k) ≤ s.mask := Nat.div_le_self _ _
      generalize s.mask / 2 ^ (8 * k) = m at *
      have hq : 255 - m % 256 < 256 := by omega
      have e1' : bits .xor .u8 IntKind.u8.max ((m : Int) % 256) = ((255 - m % 256 : Nat) : Int) := by
        rw [show ((m : Int) % 256) = ((m % 256 : Nat) : Int) by omega, not_u8 _ (by omega)]
      generalize 255 - m % 256 = q at hq e1' hdt
      have e2' : bits .or .u8 ((want.toNat : Nat) : Int) (q : Int) = ((want.toNat ||| q : Nat) : Int) := u8_or_nat _ _ hbl hq
      have hor := or_lt8 hbl hq
      have e3' : bits .and .u8 ((was.toNat : Nat) : Int) ((want.toNat ||| q : Nat) : Int) = ((D.toNat : Nat) : Int) := by rw [u8_and_nat _ _ hwl hor, hdt]
      have hdl := UInt8.toNat_lt D
      have sg8 : IntKind.u8.signed = false := rfl
      generalize want.toNat ||| q = wq at e2' e3' hor hdt
      clear hdt
      have e1 : bits .xor .u8 IntKind.u8.max ((m : Int) % 256) = (q : Int) := e1'
      have e2 : bits .or .u8 ((want.toNat : Nat) : Int) (q : Int) = (wq : Int) := e2'
      have e3 : bits .and .u8 ((was.toNat : Nat) : Int) (wq : Int) = ((D.toNat : Nat) : Int) := e3'
      clear e1' e2' e3'
      have Hne : ∀ b1 b2 : Bool, b1 = true → True := fun _ _ _ => True.intro
      clear Hne
      have c1 : (wr.setCell ⟨g, a + k, Option.none⟩ (vb D)).cell? ⟨g, a + k, Option.none⟩ = some (vb D) := World.cell?_setCell_same _ _ _ cb
      generalize hev : (((if bad then 6 else 0 : Nat)) : Int) = ev at *
      have Hev := hide hev
      clear hev
      go_wp2_with fail
      go_region
      have hw' : (own 5 1 (.slice (some ⟨g, 0, Option.none⟩) s.B.length cap) s.B.length (vbs (progK s.B a lb s.mask k)) * (blk p (.cells (flCells (.slice (some ⟨g, 0, Option.none⟩) s.B.length cap) vw s.step) 53 (0, 0)) * (ownInts vw s.worn * F))).on wr := by
        rw [SP.mul_left_comm]; exact Hw.out
      have h2 := (own_store hw' (j := a + k) (by omega) (vb D)).drew
      rw [vbs_set, ← HK.out, SP.mul_left_comm] at h2
      have HS2 := hide ((Hstr.out.setCell ⟨g, a + k, Option.none⟩ (vb D)).drew)
      have hD : (progK s.B a lb s.mask (k + 1))[a + k]? = some D := by
        rw [HK.out, List.getElem?_set_self (by rw [hpl]; omega)]
      clear hw' cb cv1 fr hl hw c0 c5 c1
      generalize (wr.setCell ⟨g, a + k, Option.none⟩ (vb D)).drew = w2 at *
      have cg := own_cell h2.right (a + k) (vb D) (by simp only [vbs, List.getElem?_map, hD, Option.map_some])
      have c0 := cell_of_row w2 p 0 _ _ _ (on_blk_mul h2)
      simp only [flCells] at c0
      have hl2 := Hrd.out w2 h2.right.right.right
      obtain ⟨_, _, he, _, _, hl2, _⟩ := hl2
      simp only [Value.slice.injEq] at he
      obtain ⟨rfl, _, rfl⟩ := he
      have cv2 := Lay.cell hl2 k (vbs_get lb k hkl)
      rw [hbk'] at cv2
      have H2 := hide h2
      clear h2 hl2 hD
      cases hc : (D == want) with
      | true =>
        have hx : (((D.toNat : Nat) : Int) == ((want.toNat : Nat) : Int)) = true := by simp only [beq_iff_eq] at hc ⊢; rw [hc]
        have hb2 : (bad || D != want) = bad := by simp [bne, hc]
        have HB2 := hide hb2
        clear hc hb2
        go_wp2_with fail
        go_region
        go_wp2_with fail
        refine ⟨⟨k + 1, by omega, by simp, ?_, H2.out.drew, HS2.out.drew⟩, by simp [intOf]; omega⟩
        rw [HE.out, HB2.out, ← Hev.out]
      | false =>
        have hx : (((D.toNat : Nat) : Int) == ((want.toNat : Nat) : Int)) = false := by
          simp only [beq_eq_false_iff_ne, ne_eq] at hc ⊢
          intro h; exact hc (UInt8.toNat_inj.1 (by omega))
        have hb2 : (bad || D != want) = true := by simp [bne, hc]
        have HB2 := hide hb2
        clear hc hb2
        go_wp2_with fail
        go_region
        go_wp2_with fail
        refine ⟨⟨k + 1, by omega, by simp, ?_, H2.out.drew, HS2.out.drew⟩, by simp [intOf]; omega⟩
        rw [HE.out, HB2.out]; rfl
    · have h4 : k = 4 := by omega
      have HB := hide (show badK s.B a lb s.mask k = badK s.B a lb s.mask 4 by rw [h4])
      have HP := hide (show progK s.B a lb s.mask k = progK s.B a lb s.mask 4 by rw [h4])
      clear h4
      generalize badK s.B a lb s.mask k = bad at *
      generalize hev : (((if bad then 6 else 0 : Nat)) : Int) = ev at *
      have Hev := hide hev
      clear hev
      have hoff : ∀ b : Bool, s.step.off = b → (flCells (.slice (some ⟨g, 0, Option.none⟩) s.B.length cap) vw s.step)[5]? = some (.bool b) := by
        intro b hb; rw [← hb]; rfl
      cases ho : s.step.off with
      | true =>
        rw [ho] at c5
        have HE := hide (show s.wordErr a lb = 5 by simp [FlS.wordErr, ho])
        clear ho hoff
        go_wp2_with fail
        go_ret
        refine ⟨by rw [HE.out]; rfl, Flash.ofParts (vb := .slice (some ⟨g, 0, Option.none⟩) s.B.length cap) (vw := vw) ?_, Hstr.out⟩
        have hfin := Hw.out
        rw [HP.out] at hfin
        show (_ * (own 5 1 _ (progK s.B a lb s.mask 4).length (vbs (progK s.B a lb s.mask 4)) * (ownInts vw s.step.worn * F))).on wr
        rw [progK_length, FlS.step_worn]
        exact hfin
      | false =>
        rw [ho] at c5
        have HE := hide (show ((s.wordErr a lb : Nat) : Int) = ev by rw [← Hev.out, HB.out]; simp [FlS.wordErr, ho])
        clear ho hoff
        go_wp2_with fail
        go_ret
        refine ⟨by rw [HE.out]; rfl, Flash.ofParts (vb := .slice (some ⟨g, 0, Option.none⟩) s.B.length cap) (vw := vw) ?_, Hstr.out⟩
        have hfin := Hw.out
        rw [HP.out] at hfin
        show (_ * (own 5 1 _ (progK s.B a lb s.mask 4).length (vbs (progK s.B a lb s.mask 4)) * (ownInts vw s.step.worn * F))).on wr
        rw [progK_length, FlS.step_worn]
        exact hfin
end Go.Proofs.YtgmpmlneoiagdaaGreatDoor

/- More Go functions of flash: a new one, Fail, Power, Off, Read. -/
namespace Go.Proofs.YtgmpmlneoiagdaaGreatDoor
open Go.ChangeShapes Go.WideShapes Go.ChangeAt Go.RowKit
set_option linter.unusedVariables false

abbrev fptr (p : Nat) : Value := .pointer (some ⟨p, 0, Option.none⟩)
set_option maxHeartbeats 1000000 in
theorem power_any (p : Nat) (s : FlS) (F : SP) (w : World) (h : (Flash p s * F).on w) :
    Calls Tryz.prog 29 #[fptr p] w fun e w' => (∃ v, e = .returned v) ∧ (Flash p { s with off := false, armed := false } * F).on w' ∧ Str w w' := by
  obtain ⟨vb, vw, h⟩ := Flash.open h
  have hb := on_blk_mul h
  have c5 := cell_of_row w p 5 _ _ _ hb
  have c6 := cell_of_row w p 6 _ _ _ hb
  have fr := fun j => frozen_of_row w p j _ _ hb
  simp only [flCells] at c5 c6
  have H := hide h
  clear h hb
  go_enter Tryz.func29, Tryz.ntmps29
  go_wp2
  go_end0
  refine ⟨⟨_, rfl⟩, Flash.shut (vb := vb) (vw := vw) ?_, ((Str.refl _).setCell _ _).setCell _ _⟩
  exact (H.out.setCell (i := 5) _).setCell (i := 6) _

set_option maxHeartbeats 1000000 in
theorem off_any (p : Nat) (s : FlS) (F : SP) (w : World) (h : (Flash p s * F).on w) :
    Calls Tryz.prog 32 #[fptr p] w fun e w' => e = .returned (.bool s.off) ∧ w = w' := by
  obtain ⟨vb, vw, h⟩ := Flash.open h
  have hb := on_blk_mul h
  have c5 := cell_of_row w p 5 _ _ _ hb
  simp only [flCells] at c5
  clear hb h
  go_enter Tryz.func32, Tryz.ntmps32
  go_wp2
  go_ret
  exact ⟨rfl, rfl⟩

set_option maxHeartbeats 1000000 in
theorem size_any (p : Nat) (s : FlS) (F : SP) (w : World) (h : (Flash p s * F).on w) (ok : s.Ok) :
    Calls Tryz.prog 16 #[fptr p] w fun e w' => e = .returned (.int .i64 s.B.length) ∧ w = w' := by
  obtain ⟨g, cap, vw, hc1, hc2, h⟩ := Flash.parts h ok
  have hb := on_blk_mul h
  have c0 := cell_of_row w p 0 _ _ _ hb
  simp only [flCells] at c0
  clear hb h
  go_enter Tryz.func16, Tryz.ntmps16
  go_wp2
  go_ret
  exact ⟨rfl, rfl⟩

theorem infoByte : (Tryz.prog.info? 5).map (fun i => (i.zero, i.size, i.bytes)) = some (some (.int .u8 0), 1, 1) := by kernel_rfl
theorem IsBytes.none (w : World) (g x c : Nat) (hc : c ≤ maxLen) : IsBytes w (.slice (some ⟨g, x, Option.none⟩) 0 c) [] := ⟨_, c, rfl, Nat.zero_le _, hc, Lay.nil _ _, by simp⟩
theorem IsBytes.part {w : World} {g n cap : Nat} {l : List UInt8} (h : IsBytes w (.slice (some ⟨g, 0, Option.none⟩) n cap) l) (a k : Nat) (hk : a + k ≤ l.length) : IsBytes w (.slice (some ⟨g, a, Option.none⟩) k (cap - a)) ((l.drop a).take k) := by
  obtain ⟨ad, c, e, h1, h2, h3, _⟩ := h
  simp only [Value.slice.injEq] at e
  obtain ⟨rfl, rfl, rfl⟩ := e
  refine ⟨_, _, by rw [List.length_take, List.length_drop, Nat.min_eq_left (by omega)], by simp; omega, by omega, ?_, by simp⟩
  have := (h3.drop a).take k
  simpa [vbs] using this

/-- what is read -/
def readQ (l : List UInt8) (v : Value) : SP := ex fun x : Value => pure (v = .tuple #[x, .int .i64 0]) * ownBy x l
theorem readQ.out {l : List UInt8} {v : Value} {F : SP} {w : World} (h : (readQ l v * F).on w) : ∃ x, v = .tuple #[x, .int .i64 0] ∧ (ownBy x l * F).on w := by
  obtain ⟨x, h⟩ := on_ex_mul.1 h
  rw [SP.mul_assoc] at h
  obtain ⟨h1, h2⟩ := on_pure_mul.1 h
  exact ⟨x, h1, h2⟩
theorem readQ.in {l : List UInt8} {x : Value} {F : SP} {w : World} (h : (ownBy x l * F).on w) : (readQ l (.tuple #[x, .int .i64 0]) * F).on w :=
  on_ex_mul.2 ⟨x, by rw [SP.mul_assoc]; exact on_pure_mul.2 ⟨rfl, h⟩⟩

set_option maxRecDepth 100000 in
set_option maxHeartbeats 1000000 in
theorem flread_any (p : Nat) (s : FlS) (F : SP) (w : World) (h : (Flash p s * F).on w) (ok : s.Ok) (hoff : s.off = false) (a n : Nat) (han : a + n ≤ s.B.length) :
    Calls Tryz.prog 33 #[fptr p, .int .i64 a, .int .i64 n] w (Makes w (readQ ((s.B.drop a).take n))) := by
  have hp := ok.pages
  have hm := ok.most
  have hlen : s.B.length ≤ 16384 := by omega
  clear hp hm
  obtain ⟨g, cap, vw, hc1, hc2, h2⟩ := Flash.parts h ok
  have hb := on_blk_mul h2
  have c0 := cell_of_row w p 0 _ _ _ hb
  simp only [flCells] at c0
  clear hb
  have Hby := hide ((own_bytes h2.right).part a n (by omega))
  clear h2
  unfold maxLen at hc2
  have H := hide h
  clear h
  have hu := Tryz.underlying22
  go_enter Tryz.func33, Tryz.ntmps33
  go_wp2_with fail
  refine (ready_any p s F w H.out).mono ?_
  rintro e w1 ⟨rfl, rfl⟩
  rw [hoff]
  go_wp2_with fail
  refine (inside_any p s F w H.out ok a n (by omega) (by omega)).mono ?_
  rintro e w1 ⟨rfl, rfl⟩
  have hin : s.inside a n = true := by simp [FlS.inside]; omega
  rw [hin]
  clear hoff hin
  by_cases hn : n = 0
  · subst hn
    rw [List.take_zero]
    by_cases hcap : a = cap
    · have hz : cap - a = 0 := by omega
      go_wp2_with (at_builtin; refine wpList_append_bytes (F := all w) rfl _ _ 22 rfl 5 hu infoByte _ [] [] rfl (own_nil _ _ (on_all w)) _ rfl (IsBytes.none w g _ _ (by unfold maxLen; omega)) (by simp) ?_; intro v2 w2 ho2 hs2)
      go_wp2_with fail
      go_ret2
      exact ⟨_, rfl, readQ.in ho2, hs2⟩
    · go_wp2_with (at_builtin; refine wpList_append_bytes (F := all w) rfl _ _ 22 rfl 5 hu infoByte _ [] [] rfl (own_nil _ _ (on_all w)) _ rfl (IsBytes.none w g _ _ (by unfold maxLen; omega)) (by simp) ?_; intro v2 w2 ho2 hs2)
      go_wp2_with fail
      go_ret2
      exact ⟨_, rfl, readQ.in ho2, hs2⟩
  · have hn1 : 1 ≤ n := by omega
    have hll : ((s.B.drop a).take n).length = n := by simp; omega
    generalize (s.B.drop a).take n = l at *
    have Hll := hide hll
    clear hll hn
    go_wp2_with (at_builtin; refine wpList_append_bytes (F := all w) rfl _ _ 22 rfl 5 hu infoByte _ [] l rfl (own_nil _ _ (on_all w)) _ rfl (by have h := Hby.out; rw [← Nat.add_sub_cancel_left (n := a) (m := n)] at h; exact h) (by rw [Hll.out]; simp; omega) ?_; intro v2 w2 ho2 hs2)
    go_wp2_with fail
    go_ret2
    exact ⟨_, rfl, readQ.in ho2, hs2⟩
end Go.Proofs.YtgmpmlneoiagdaaGreatDoor

/- A new flash. -/
namespace Go.Proofs.YtgmpmlneoiagdaaGreatDoor
open Go.ChangeShapes Go.WideShapes Go.ChangeAt Go.RowKit
set_option linter.unusedVariables false

def FlS.new (k : Nat) : FlS := { B := List.replicate (k * 256) 255, worn := List.replicate k 0, steps := 0, lf := 0, lt := 0, off := false, armed := false, left := 0, tear := 0 }
theorem FlS.new_ok (k : Nat) (h1 : 1 ≤ k) (h2 : k ≤ 64) : (FlS.new k).Ok := by
  exact ⟨by simp [FlS.new]; omega, by simp [FlS.new]; omega, by simp [FlS.new], by simp [FlS.new], by simp [FlS.new], by simp [FlS.new]⟩
theorem infoInt : (Tryz.prog.info? 3).map (fun i => (i.zero, i.size, i.bytes)) = some (some (.int .i64 0), 1, 8) := by kernel_rfl
theorem madeCells_one (z : Value) (n : Nat) : madeCells #[z] n = (List.replicate n z).toArray := by
  apply Array.ext
  · simp [size_madeCells]
  · intro i h1 h2
    simp [madeCells, Nat.mod_one]
def newQ (k : Nat) (v : Value) : SP := ex fun p : Nat => pure (v = .tuple #[fptr p, .int .i64 0]) * Flash p (FlS.new k)

def newCells (gB gI k : Nat) : Array Value := #[.slice (some ⟨gB, 0, Option.none⟩) (k * 256) (k * 256), .slice (some ⟨gI, 0, Option.none⟩) k k, .int .i64 0, .int .i64 0, .int .i64 0, .bool false, .bool false, .int .i64 0, .int .u32 0]
def newMid (w : World) (gB gI p k j : Nat) : SP := blk p (.cells (newCells gB gI k) 53 (0, 0)) * (own 5 1 (.slice (some ⟨gB, 0, Option.none⟩) (k * 256) (k * 256)) (k * 256) (vbs (List.replicate j 255 ++ List.replicate (k * 256 - j) 0)) * (ownInts (.slice (some ⟨gI, 0, Option.none⟩) k k) (List.replicate k 0) * all w))

theorem new_world1 (w : World) (k : Nat) (h2 : k ≤ 64) : ∃ W, W = (((w.alloc (Obj.cells (Array.replicate (k * 256) (Value.int IntKind.u8 0)) 5)).alloc (Obj.cells (Array.replicate k (Value.int IntKind.i64 0)) 3)).alloc (Obj.cells (newCells w.heap.size (w.heap.size + 1) k) 53)).drew ∧
    (newMid w w.heap.size (w.heap.size + 1) (w.heap.size + 1 + 1) k 0).on W ∧ Str w W := by
  refine ⟨_, rfl, ?_, ((((Str.refl w).alloc _).alloc _).alloc _).drew⟩
  have h1 := own_new (F := all w) 5 1 (k * 256) (List.replicate (k * 256) (.int .u8 0)) (on_all w) (by simp) (by unfold maxLen; omega)
  have h3 := own_new 3 1 k (List.replicate k (.int .i64 0)) h1 (by simp) (by unfold maxLen; omega)
  have h4 := h3.alloc (Obj.cells (newCells w.heap.size (w.heap.size + 1) k) 53)
  simp only [World.size_alloc, List.toArray_replicate] at h4
  have h5 := h4.drew
  unfold newMid
  simp only [ownInts, vbs, List.replicate_zero, List.nil_append, Nat.sub_zero, List.map_replicate, List.length_replicate]
  rw [SP.mul_left_comm (own 5 1 _ _ _)]
  exact h5
theorem new_world2 (w : World) (k : Nat) (h2 : k ≤ 64) : ∃ W, W = (((w.alloc (Obj.cells (Array.replicate k (Value.int IntKind.i64 0)) 3)).alloc (Obj.cells (Array.replicate (k * 256) (Value.int IntKind.u8 0)) 5)).alloc (Obj.cells (newCells (w.heap.size + 1) w.heap.size k) 53)).drew ∧
    (newMid w (w.heap.size + 1) w.heap.size (w.heap.size + 1 + 1) k 0).on W ∧ Str w W := by
  refine ⟨_, rfl, ?_, ((((Str.refl w).alloc _).alloc _).alloc _).drew⟩
  have h1 := own_new (F := all w) 3 1 k (List.replicate k (.int .i64 0)) (on_all w) (by simp) (by unfold maxLen; omega)
  have h3 := own_new 5 1 (k * 256) (List.replicate (k * 256) (.int .u8 0)) h1 (by simp) (by unfold maxLen; omega)
  have h4 := h3.alloc (Obj.cells (newCells (w.heap.size + 1) w.heap.size k) 53)
  simp only [World.size_alloc, List.toArray_replicate] at h4
  have h5 := h4.drew
  unfold newMid
  simp only [ownInts, vbs, List.replicate_zero, List.nil_append, Nat.sub_zero, List.map_replicate, List.length_replicate]
  exact h5
theorem newMid_step {w wr : World} {gB gI p k j : Nat} (h : (newMid w gB gI p k j).on wr) (hj : j < k * 256) : (newMid w gB gI p k (j + 1)).on (wr.setCell ⟨gB, j, Option.none⟩ (.int .u8 255)) := by
  unfold newMid at h ⊢
  rw [SP.mul_left_comm] at h
  have h2 := own_store h hj (vb 255)
  rw [vbs_set] at h2
  have e : (List.replicate j (255 : UInt8) ++ List.replicate (k * 256 - j) 0).set j 255 = List.replicate (j + 1) 255 ++ List.replicate (k * 256 - (j + 1)) 0 := by
    rw [List.set_append, if_neg (by simp), List.length_replicate, Nat.sub_self]
    obtain ⟨m, hm⟩ : ∃ m, k * 256 - j = m + 1 := ⟨k * 256 - j - 1, by omega⟩
    rw [hm, List.replicate_succ (n := m), List.set_cons_zero, show k * 256 - (j + 1) = m by omega, List.replicate_succ' (n := j)]
    simp
  rw [e, SP.mul_left_comm] at h2
  exact h2
theorem newMid_done {w wr : World} {gB gI p k : Nat} (h : (newMid w gB gI p k (k * 256)).on wr) : (newQ k (.tuple #[fptr p, .int .i64 0]) * all w).on wr := by
  refine on_ex_mul.2 ⟨p, ?_⟩
  rw [SP.mul_assoc]
  refine on_pure_mul.2 ⟨rfl, Flash.ofParts (vb := .slice (some ⟨gB, 0, Option.none⟩) (k * 256) (k * 256)) (vw := .slice (some ⟨gI, 0, Option.none⟩) k k) ?_⟩
  unfold newMid at h
  simp only [Nat.sub_self, List.replicate_zero, List.append_nil] at h
  simpa [FlS.new, ownBy, ownInts, flCells, newCells] using h

set_option maxRecDepth 100000 in
set_option maxHeartbeats 1000000 in
theorem new_any (k : Nat) (h1 : 1 ≤ k) (h2 : k ≤ 64) (w : World) :
    Calls Tryz.prog 6 #[.int .i64 k] w (Makes w (newQ k)) := by
  have hmk1 := run_make_row' (P := Tryz.prog) 22 5 (.int .u8 0) 1 Tryz.underlying22 infoByte rfl .i64 .i64 (k * 256) (by omega) (by omega)
  have hmk2 := run_make_row' (P := Tryz.prog) 51 3 (.int .i64 0) 8 Tryz.underlying51 infoInt rfl .i64 .i64 k (by omega) (by omega)
  have ek : ((k * 256 : Nat) : Int) = (k : Int) * 256 := by omega
  rw [ek] at hmk1
  simp only [madeCells_one] at hmk1 hmk2
  clear ek
  go_enter Tryz.func6, Tryz.ntmps6
  go_wp2_with fail
  go_region
  · obtain ⟨w1, hw1, H0, HS⟩ := new_world1 w k h2
    unfold newCells at hw1
    rw [← hw1]
    clear hw1
    generalize w.heap.size + 1 + 1 = p at *
    generalize w.heap.size + 1 = gI at *
    generalize w.heap.size = gB at *
    have c0 : (w1.cell? ⟨p, 0, Option.none⟩) = some (.slice (some ⟨gB, 0, Option.none⟩) (k * 256) (k * 256)) := cell_of_row w1 p 0 _ _ _ (on_blk_mul H0)
    have H0 := hide H0
    have HS := hide HS
    have kl : k * 256 ≤ 16384 := by omega
    clear hmk1 hmk2
    go_wp2_with fail
    go_loopw [24] (fun i wr => ∃ j : Nat, j ≤ k * 256 ∧ i = .int .i64 j ∧ (newMid w gB gI p k j).on wr ∧ Str w wr) (fun i _ => k * 256 - (intOf i).toNat)
    case atStart => exact ⟨0, by omega, rfl, H0.out, HS.out⟩
    case round =>
      obtain ⟨j, hj, rfl, hw, hstr⟩ := hrel
      have c1 : (wr.cell? ⟨p, 0, Option.none⟩) = some (.slice (some ⟨gB, 0, Option.none⟩) (k * 256) (k * 256)) := cell_of_row wr p 0 _ _ _ (on_blk_mul hw)
      by_cases hlt : j < k * 256
      · have hr := hw
        unfold newMid at hr
        obtain ⟨old, hold⟩ : ∃ o : Value, (vbs (List.replicate j 255 ++ List.replicate (k * 256 - j) 0))[j]? = some o := ⟨_, List.getElem?_eq_getElem (by simp; omega)⟩
        have cb := own_cell hr.right j old hold
        have fr := own_free hr.right j
        have H1 := hide (newMid_step hw hlt)
        have Hs := hide (hstr.setCell ⟨gB, j, Option.none⟩ (.int .u8 255))
        clear hr hw hstr hold
        go_wp2_with fail
        exact ⟨⟨j + 1, hlt, by simp, H1.out, Hs.out⟩, by simp [intOf]; omega⟩
      · have hj2 : j = k * 256 := by omega
        have H1 := hide hw
        have Hs := hide hstr
        clear hw hstr
        go_wp2_with fail
        go_ret2
        exact ⟨_, rfl, newMid_done (hj2 ▸ H1.out), Hs.out⟩
  · obtain ⟨w1, hw1, H0, HS⟩ := new_world2 w k h2
    unfold newCells at hw1
    rw [← hw1]
    clear hw1
    generalize w.heap.size + 1 + 1 = p at *
    generalize w.heap.size + 1 = gB at *
    generalize w.heap.size = gI at *
    have c0 : (w1.cell? ⟨p, 0, Option.none⟩) = some (.slice (some ⟨gB, 0, Option.none⟩) (k * 256) (k * 256)) := cell_of_row w1 p 0 _ _ _ (on_blk_mul H0)
    have H0 := hide H0
    have HS := hide HS
    have kl : k * 256 ≤ 16384 := by omega
    clear hmk1 hmk2
    go_wp2_with fail
    go_loopw [24] (fun i wr => ∃ j : Nat, j ≤ k * 256 ∧ i = .int .i64 j ∧ (newMid w gB gI p k j).on wr ∧ Str w wr) (fun i _ => k * 256 - (intOf i).toNat)
    case atStart => exact ⟨0, by omega, rfl, H0.out, HS.out⟩
    case round =>
      obtain ⟨j, hj, rfl, hw, hstr⟩ := hrel
      have c1 : (wr.cell? ⟨p, 0, Option.none⟩) = some (.slice (some ⟨gB, 0, Option.none⟩) (k * 256) (k * 256)) := cell_of_row wr p 0 _ _ _ (on_blk_mul hw)
      by_cases hlt : j < k * 256
      · have hr := hw
        unfold newMid at hr
        obtain ⟨old, hold⟩ : ∃ o : Value, (vbs (List.replicate j 255 ++ List.replicate (k * 256 - j) 0))[j]? = some o := ⟨_, List.getElem?_eq_getElem (by simp; omega)⟩
        have cb := own_cell hr.right j old hold
        have fr := own_free hr.right j
        have H1 := hide (newMid_step hw hlt)
        have Hs := hide (hstr.setCell ⟨gB, j, Option.none⟩ (.int .u8 255))
        clear hr hw hstr hold
        go_wp2_with fail
        exact ⟨⟨j + 1, hlt, by simp, H1.out, Hs.out⟩, by simp [intOf]; omega⟩
      · have hj2 : j = k * 256 := by omega
        have H1 := hide hw
        have Hs := hide hstr
        clear hw hstr
        go_wp2_with fail
        go_ret2
        exact ⟨_, rfl, newMid_done (hj2 ▸ H1.out), Hs.out⟩
end Go.Proofs.YtgmpmlneoiagdaaGreatDoor

/- Words of flash are programmed, one behind the other. -/
namespace Go.Proofs.YtgmpmlneoiagdaaGreatDoor
open Go.ChangeShapes Go.WideShapes Go.ChangeAt Go.RowKit
set_option linter.unusedVariables false

/-- so many words of a text are programmed, the first of them at word i: the flash, and the error -/
def FlS.progW (lb : List UInt8) (a : Nat) : Nat → Nat → FlS → FlS × Nat
  | 0, _, s => (s, 0)
  | r + 1, i, s => if s.wordErr (a + i * 4) ((lb.drop (i * 4)).take 4) = 0 then FlS.progW lb a r (i + 1) (s.word (a + i * 4) ((lb.drop (i * 4)).take 4))
    else (s.word (a + i * 4) ((lb.drop (i * 4)).take 4), s.wordErr (a + i * 4) ((lb.drop (i * 4)).take 4))
theorem FlS.word_length (s : FlS) (a : Nat) (lb : List UInt8) : (s.word a lb).B.length = s.B.length := by simp [FlS.word, progK_length]
theorem FlS.word_steps (s : FlS) (a : Nat) (lb : List UInt8) : (s.word a lb).steps ≤ s.steps + 1 := FlS.step_steps s
theorem FlS.word_lf (s : FlS) (a : Nat) (lb : List UInt8) : (s.word a lb).lf = s.lf ∧ (s.word a lb).lt = s.lt := by
  simp only [FlS.word, FlS.step]; split <;> simp
theorem IsBytes.part' {w : World} {g off n cap : Nat} {l : List UInt8} (h : IsBytes w (.slice (some ⟨g, off, Option.none⟩) n cap) l) (a k : Nat) (hk : a + k ≤ l.length) : IsBytes w (.slice (some ⟨g, off + a, Option.none⟩) k (cap - a)) ((l.drop a).take k) := by
  obtain ⟨ad, c, e, h1, h2, h3, _⟩ := h
  simp only [Value.slice.injEq] at e
  obtain ⟨rfl, rfl, rfl⟩ := e
  refine ⟨_, _, by rw [List.length_take, List.length_drop, Nat.min_eq_left (by omega)], by simp; omega, by omega, ?_, by simp⟩
  have := (h3.drop a).take k
  simpa [vbs] using this

set_option maxRecDepth 100000 in
set_option maxHeartbeats 2000000 in
theorem program_any (p : Nat) (s : FlS) (F : SP) (w : World) (h : (Flash p s * F).on w) (ok : s.Ok) (hst : s.steps ≤ 1099511000000) (hoff : s.off = false) (a : Nat) (v : Value) (lb : List UInt8) (words : Nat) (ha4 : a % 4 = 0) (hlb : lb.length = words * 4) (hin : a + lb.length ≤ s.B.length)
    (hlk : ∀ i : Nat, i < words → s.locked (((a + i * 4) / 256 : Nat) : Int) = false) (hrd : ∀ w, F.on w → IsBytes w v lb) :
    Calls Tryz.prog 7 #[fptr p, .int .i64 a, v] w fun e w' => e = .returned (.int .i64 ((FlS.progW lb a words 0 s).2 : Int)) ∧ (Flash p (FlS.progW lb a words 0 s).1 * F).on w' ∧ Str w w' := by
  have hv := hrd w h.right
  obtain ⟨av, cv, rfl, hcv, hmv, hlv, hnv⟩ := hv
  have hpg := ok.pages
  have hmo := ok.most
  have hB : s.B.length ≤ 16384 := by omega
  clear hpg hmo
  unfold maxLen at hmv
  have Hrd := hide hrd
  have H := hide h
  have Hlk := hide hlk
  have Hnv := hide hnv
  have Hlv := hide hlv
  clear hrd h hlk hnv hlv
  have Hin := hide (inside_any p s F w H.out ok a lb.length (by omega) (by omega))
  have hins : s.inside a lb.length = true := by simp [FlS.inside]; omega
  rw [hins] at Hin
  clear hins
  rw [hlb] at Hin hcv ⊢
  have hwords : words ≤ 4096 := by omega
  have e1 : ((a : Int)).tmod 4 = 0 := by rw [Int.tmod_eq_emod_of_nonneg (by omega)]; omega
  have e2 : (((words * 4 : Nat) : Int)).tmod 4 = 0 := by rw [Int.tmod_eq_emod_of_nonneg (by omega)]; omega
  have e3 : (((words * 4 : Nat) : Int)).tdiv 4 = (words : Int) := by rw [Int.tdiv_eq_ediv_of_nonneg (by omega)]; omega
  go_enter Tryz.func7, Tryz.ntmps7
  go_wp2_with fail
  refine (ready_any p s F w H.out).mono ?_
  rintro e w1 ⟨rfl, rfl⟩
  rw [hoff]
  go_wp2_with fail
  refine Hin.out.mono ?_
  rintro e w1 ⟨rfl, rfl⟩
  go_wp2_with fail
  go_loopw [37] (fun i wr => ∃ j : Nat, j ≤ words ∧ i = .int .i64 j ∧ wr = w) (fun i _ => words - (intOf i).toNat)
  case atStart => exact ⟨0, by omega, rfl, rfl⟩
  case round =>
    obtain ⟨j, hj, rfl, rfl⟩ := hrel
    by_cases hlt : j < words
    · have Hl := locked_any p s F wr H.out (((a + j * 4) / 256 : Nat) : Int)
      rw [Hlk.out j hlt] at Hl
      have hpage : (((a + j * 4) / 256 : Nat) : Int) = ((a : Int) + (j : Int) * 4) / 256 := by omega
      rw [hpage] at Hl
      have HL := hide Hl
      clear Hl hpage
      go_wp2_with fail
      refine HL.out.mono ?_
      rintro e w2 ⟨rfl, rfl⟩
      go_wp2_with fail
      exact ⟨⟨j + 1, by omega, by simp, trivial⟩, by simp [intOf]; omega⟩
    · go_wp2_with fail
      go_loopw [49] (fun i w2 => ∃ (k : Nat) (st : FlS), k ≤ words ∧ i = .int .i64 k ∧ st.Ok ∧ st.B.length = s.B.length ∧ st.steps ≤ s.steps + k ∧ FlS.progW lb a words 0 s = FlS.progW lb a (words - k) k st ∧ (Flash p st * F).on w2 ∧ Str wr w2) (fun i _ => words - (intOf i).toNat)
      case atStart => exact ⟨0, s, by omega, rfl, ok, rfl, by omega, rfl, H.out, Str.refl _⟩
      case round =>
        obtain ⟨k, st, hk, rfl, okt, hlt2, hst2, heq, hw2, hstr2⟩ := hrel
        by_cases hkl : k < words
        · obtain ⟨bv, offv, rfl⟩ := Lay.isAddr Hlv.out 0 (by simp; omega)
          have Heq := hide heq
          have Hw2 := hide hw2
          have Hstr2 := hide hstr2
          have hlen4 : ((lb.drop (k * 4)).take 4).length = 4 := by simp; omega
          have HW := hide (word_any p st F _ hw2 okt (by omega) (a + k * 4) (by omega) (.slice (some ⟨bv, offv + k * 4, Option.none⟩) 4 (cv - k * 4)) ((lb.drop (k * 4)).take 4) hlen4 (fun w hw => by
            have h1 := Hrd.out w hw
            exact h1.part' (k * 4) 4 (by omega)))
          have hokw := FlS.word_ok okt (a + k * 4) ((lb.drop (k * 4)).take 4)
          have hstw := FlS.word_steps st (a + k * 4) ((lb.drop (k * 4)).take 4)
          have hlnw := FlS.word_length st (a + k * 4) ((lb.drop (k * 4)).take 4)
          have hstep : FlS.progW lb a (words - k) k st = if st.wordErr (a + k * 4) ((lb.drop (k * 4)).take 4) = 0 then FlS.progW lb a (words - (k + 1)) (k + 1) (st.word (a + k * 4) ((lb.drop (k * 4)).take 4))
              else (st.word (a + k * 4) ((lb.drop (k * 4)).take 4), st.wordErr (a + k * 4) ((lb.drop (k * 4)).take 4)) := by
            obtain ⟨m, hm⟩ : ∃ m, words - k = m + 1 := ⟨words - k - 1, by omega⟩
            rw [hm, show words - (k + 1) = m by omega]
            rfl
          clear heq hw2 hstr2 hlen4
          generalize (lb.drop (k * 4)).take 4 = l4 at *
          generalize st.word (a + k * 4) l4 = st' at *
          have eaddr : ((a + k * 4 : Nat) : Int) = (a : Int) + (k : Int) * 4 := by omega
          rw [eaddr] at HW
          clear eaddr
          by_cases he : st.wordErr (a + k * 4) l4 = 0
          · rw [if_pos he] at hstep
            rw [he] at HW
            have Hstep := hide hstep
            clear he hstep
            go_wp2_with fail
            refine HW.out.mono ?_
            rintro e w3 ⟨rfl, h3, hs3⟩
            have H3 := hide h3
            have Hs3 := hide hs3
            clear h3 hs3
            go_wp2_with fail
            exact ⟨⟨k + 1, st', by omega, by simp, hokw, by rw [hlnw, hlt2], by omega, by rw [Heq.out, Hstep.out], H3.out, Hstr2.out.trans Hs3.out⟩, by simp [intOf]; omega⟩
          · rw [if_neg he] at hstep
            have Hstep := hide hstep
            have hle : st.wordErr (a + k * 4) l4 ≤ 6 := by unfold FlS.wordErr; split <;> (try split) <;> omega
            have he1 : 1 ≤ st.wordErr (a + k * 4) l4 := by omega
            clear he hstep
            generalize st.wordErr (a + k * 4) l4 = er at *
            go_wp2_with fail
            refine HW.out.mono ?_
            rintro e w3 ⟨rfl, h3, hs3⟩
            have H3 := hide h3
            have Hs3 := hide hs3
            clear h3 hs3
            go_wp2_with fail
            go_ret
            rw [Heq.out, Hstep.out]
            exact ⟨rfl, H3.out, Hstr2.out.trans Hs3.out⟩
        · have hkw : words - k = 0 := by omega
          rw [hkw] at heq
          have Heq := hide heq
          have Hw2 := hide hw2
          have Hstr2 := hide hstr2
          clear heq hw2 hstr2 hkw
          go_wp2_with fail
          go_ret
          rw [Heq.out]
          exact ⟨rfl, Hw2.out, Hstr2.out⟩
end Go.Proofs.YtgmpmlneoiagdaaGreatDoor
