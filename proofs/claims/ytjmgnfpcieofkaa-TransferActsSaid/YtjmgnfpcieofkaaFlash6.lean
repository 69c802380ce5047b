/- A page of flash is erased. -/
import Derived.Test.YtjmgnfpcieofkaaFlash5
namespace Go.Proofs.Ytjmgnfpcieofkaa
open Go.ChangeShapes Go.WideShapes Go.ChangeAt Go.RowKit
set_option linter.unusedVariables false
set_option linter.unusedSimpArgs false

/-- a page is erased, as far as a mask tells: behind k bytes -/
def eraK (B : List UInt8) (page mask : Nat) : Nat → List UInt8
  | 0 => B
  | k + 1 => if mask / 2 ^ (k % 32) % 2 = 1 then (eraK B page mask k).set (page * 256 + k) 255 else eraK B page mask k
theorem eraK_length (B : List UInt8) (page mask k : Nat) : (eraK B page mask k).length = B.length := by
  induction k with
  | zero => rfl
  | succ k ih => unfold eraK; split <;> simp [ih]
/-- an erasure's step: what is there behind it -/
def FlS.eraS (s : FlS) (page : Nat) : FlS := { s.step with B := eraK s.B page s.mask 256, worn := if s.step.off then s.worn else s.worn.set page (s.worn.getD page 0 + 1) }
/-- a page is erased: the flash, and the error -/
def FlS.era (s : FlS) (page : Nat) : FlS × Nat := if s.off then (s, 5) else if s.worn.length ≤ page then (s, 3) else (s.eraS page, if s.step.off then 5 else 0)

theorem bit_and (m k : Nat) (h : m < 4294967296) : bits .and .u32 ((m : Int) / 2 ^ k) 1 = ((m / 2 ^ k % 2 : Nat) : Int) := by
  have h1 : m / 2 ^ k < 4294967296 := Nat.lt_of_le_of_lt (Nat.div_le_self _ _) h
  rw [show ((m : Int) / 2 ^ k) = ((m / 2 ^ k : Nat) : Int) by simp, show (1 : Int) = ((1 : Nat) : Int) from rfl, u32_and_nat _ _ h1 (by omega), Nat.and_one_is_mod]
theorem FlS.eraS_length (s : FlS) (page : Nat) : (s.eraS page).B.length = s.B.length := by simp [FlS.eraS, eraK_length]
theorem FlS.eraS_ok {s : FlS} (h : s.Ok) (page : Nat) : (s.eraS page).Ok := by
  have h' := FlS.step_ok h
  have hw : (if s.step.off then s.worn else s.worn.set page (s.worn.getD page 0 + 1)).length = s.worn.length := by split <;> simp
  refine ⟨?_, ?_, h'.lf, h'.lt, h'.left, h'.tear⟩
  · simp only [FlS.eraS, eraK_length, hw]; exact h.pages
  · simp only [FlS.eraS, hw]; exact h.most

set_option maxRecDepth 100000 in
set_option maxHeartbeats 4000000 in
theorem erase_off (p : Nat) (s : FlS) (F : SP) (w : World) (h : (Flash p s * F).on w) (hoff : s.off = true) (page : Nat) :
    Calls Try.prog 47 #[fptr p, .int .i64 page] w fun e w' => e = .returned (.int .i64 5) ∧ w = w' := by
  have H := hide h
  clear h
  go_enter Try.func47, Try.ntmps47
  go_wp2_with fail
  refine (ready_any p s F w H.out).mono ?_
  rintro e w1 ⟨rfl, rfl⟩
  rw [hoff]
  clear hoff
  go_wp2_with fail
  go_ret
  exact ⟨rfl, rfl⟩
set_option maxRecDepth 100000 in
set_option maxHeartbeats 4000000 in
theorem erase_beyond (p : Nat) (s : FlS) (F : SP) (w : World) (h : (Flash p s * F).on w) (ok : s.Ok) (hoff : s.off = false) (page : Nat) (hp : page ≤ 1000000) (hw : s.worn.length ≤ page) :
    Calls Try.prog 47 #[fptr p, .int .i64 page] w fun e w' => e = .returned (.int .i64 3) ∧ w = w' := by
  have H := hide h
  have hm := ok.most
  obtain ⟨g, cap, vw, hc1, hc2, h2⟩ := Flash.parts h ok
  obtain ⟨aw, cw, rfl, hc3, hc4, _, _⟩ := own_value h2.right.right
  have c1 := cell_of_row w p 1 _ _ _ (on_blk_mul h2)
  simp only [flCells] at c1
  unfold maxLen at hc2 hc4
  clear h h2 ok
  go_enter Try.func47, Try.ntmps47
  go_wp2_with fail
  refine (ready_any p s F w H.out).mono ?_
  rintro e w1 ⟨rfl, rfl⟩
  rw [hoff]
  clear hoff
  go_wp2_with fail
  go_ret
  exact ⟨rfl, rfl⟩
set_option maxRecDepth 100000 in
set_option maxHeartbeats 8000000 in
theorem erase_on (p : Nat) (s : FlS) (F : SP) (w : World) (h : (Flash p s * F).on w) (ok : s.Ok) (hst : s.steps ≤ 1099511627776) (hoff : s.off = false) (page : Nat) (hw : page < s.worn.length) (hlk : s.locked (page : Int) = false) (hwn : ∀ x ∈ s.worn, x ≤ 1099511627776) :
    Calls Try.prog 47 #[fptr p, .int .i64 page] w fun e w' => e = .returned (.int .i64 ((if s.step.off then 5 else 0 : Nat) : Int)) ∧ (Flash p (s.eraS page) * F).on w' ∧ Str w w' := by
  obtain ⟨er, her⟩ : ∃ er, er = (if s.step.off then 5 else 0 : Nat) := ⟨_, rfl⟩
  rw [← her]
  have Her := hide her
  clear her
  have H := hide h
  have hm := ok.most
  have hpg := ok.pages
  have hmask := FlS.mask_lt ok
  have hL := locked_any p s F w h (page : Int)
  have hS := step_any p s F w h ok hst
  have ok1 := FlS.step_ok ok
  obtain ⟨g, cap, vw, hc1, hc2, h2⟩ := Flash.parts h ok
  obtain ⟨aw, cw, rfl, hc3, hc4, _, _⟩ := own_value h2.right.right
  have c1 := cell_of_row w p 1 _ _ _ (on_blk_mul h2)
  simp only [flCells] at c1
  unfold maxLen at hc2 hc4
  rw [hlk] at hL
  have Hwn := hide hwn
  have hB : s.B.length ≤ 16384 := by omega
  have hp64 : page < 64 := by omega
  have hend : page * 256 + 256 ≤ s.B.length := by omega
  clear h h2 ok hlk hwn hst hpg hm
  go_enter Try.func47, Try.ntmps47
  go_wp2_with fail
  refine (ready_any p s F w H.out).mono ?_
  rintro e w1 ⟨rfl, rfl⟩
  rw [hoff]
  clear hoff
  go_wp2_with fail
  refine hL.mono ?_
  clear hL
  rintro e w1 ⟨rfl, rfl⟩
  go_wp2_with fail
  refine hS.mono ?_
  clear hS c1
  rintro e w1 ⟨rfl, h1, hs1⟩
  obtain ⟨g, cap, vw, hc1, hc2, h1⟩ := Flash.parts h1 ok1
  rw [FlS.step_B, FlS.step_worn] at h1
  rw [FlS.step_B] at hc1
  have H1 := hide h1
  have Hs1 := hide hs1
  unfold maxLen at hc2
  clear h1 hs1 ok1
  go_wp2_with fail
  go_loopw [29] (fun i wr => ∃ k : Nat, k ≤ 256 ∧ i = .int .i64 k ∧ (blk p (.cells (flCells (.slice (some ⟨g, 0, Option.none⟩) s.B.length cap) vw s.step) 96 (0, 0)) * (own 5 1 (.slice (some ⟨g, 0, Option.none⟩) s.B.length cap) s.B.length (vbs (eraK s.B page s.mask k)) * (ownInts vw s.worn * F))).on wr ∧ Str w wr) (fun i _ => 256 - (intOf i).toNat)
  case atStart => exact ⟨0, by omega, rfl, H1.out, Hs1.out⟩
  case round =>
    obtain ⟨k, hk, rfl, hw', hstr⟩ := hrel
    have Hw := hide hw'
    have Hstr := hide hstr
    have hb := on_blk_mul hw'
    have c0 := cell_of_row wr p 0 _ _ _ hb
    have c1 := cell_of_row wr p 1 _ _ _ hb
    have c5 := cell_of_row wr p 5 _ _ _ hb
    simp only [flCells] at c0 c1 c5
    clear hb hstr
    by_cases hlt : k < 256
    · have hw2 : (own 5 1 (.slice (some ⟨g, 0, Option.none⟩) s.B.length cap) s.B.length (vbs (eraK s.B page s.mask k)) * (ownInts vw s.worn * F)).on wr := hw'.right
      have hpl := eraK_length s.B page s.mask k
      obtain ⟨x, hx⟩ : ∃ x, (vbs (eraK s.B page s.mask k))[page * 256 + k]? = some x := ⟨_, List.getElem?_eq_getElem (by simp [hpl]; omega)⟩
      have cb := own_cell hw2 (page * 256 + k) _ hx
      have fr := own_free hw2 (page * 256 + k)
      have hE : eraK s.B page s.mask (k + 1) = if s.mask / 2 ^ (k % 32) % 2 = 1 then (eraK s.B page s.mask k).set (page * 256 + k) 255 else eraK s.B page s.mask k := rfl
      have Hst := hide (own_store hw2 (j := page * 256 + k) (by omega) (vb 255))
      have Hx := hide hx
      have e1 : (k : Int).tmod 32 = ((k % 32 : Nat) : Int) := by rw [Int.tmod_eq_emod_of_nonneg (by omega)]; omega
      clear hw' hw2 hx
      have hba := bit_and s.mask (k % 32) hmask
      by_cases hbit : s.mask / 2 ^ (k % 32) % 2 = 1
      · rw [if_pos hbit] at hE
        have HE := hide hE
        have e2 : (bits .and .u32 ((s.mask : Int) / 2 ^ (k % 32)) 1 == 1) = true := by rw [hba, hbit]; rfl
        clear hE hbit hba
        go_wp2_with fail
        refine ⟨⟨k + 1, by omega, by simp, ?_, Hstr.out.setCell _ _⟩, by simp [intOf]; omega⟩
        have hw3 : (own 5 1 (.slice (some ⟨g, 0, Option.none⟩) s.B.length cap) s.B.length (vbs (eraK s.B page s.mask k)) * (blk p (.cells (flCells (.slice (some ⟨g, 0, Option.none⟩) s.B.length cap) vw s.step) 96 (0, 0)) * (ownInts vw s.worn * F))).on wr := by
          rw [SP.mul_left_comm]; exact Hw.out
        have h2 := own_store hw3 (j := page * 256 + k) (by omega) (vb 255)
        rw [vbs_set, ← HE.out, SP.mul_left_comm] at h2
        exact h2
      · rw [if_neg hbit] at hE
        have HE := hide hE
        have e2 : (bits .and .u32 ((s.mask : Int) / 2 ^ (k % 32)) 1 == 1) = false := by rw [hba]; simp only [beq_eq_false_iff_ne]; omega
        clear hE hbit hba
        go_wp2_with fail
        exact ⟨⟨k + 1, by omega, by simp, by rw [HE.out]; exact Hw.out, Hstr.out⟩, by simp [intOf]; omega⟩
    · have hk6 : k = 256 := by omega
      subst hk6
      clear hw'
      cases ho : s.step.off with
      | true =>
        rw [ho] at c5
        have HE := hide (show er = 5 by rw [Her.out, ho]; rfl)
        have HW := hide (show s.eraS page = { s.step with B := eraK s.B page s.mask 256, worn := s.worn } by unfold FlS.eraS; rw [ho]; rfl)
        clear ho
        go_wp2_with fail
        go_ret
        refine ⟨by rw [HE.out]; rfl, Flash.ofParts (vb := .slice (some ⟨g, 0, Option.none⟩) s.B.length cap) (vw := vw) ?_, Hstr.out⟩
        rw [HW.out]
        show (_ * (own 5 1 _ (eraK s.B page s.mask 256).length (vbs (eraK s.B page s.mask 256)) * (ownInts vw s.worn * F))).on wr
        rw [eraK_length]
        exact Hw.out
      | false =>
        rw [ho] at c5
        have HE := hide (show er = 0 by rw [Her.out, ho]; rfl)
        have HW := hide (show s.eraS page = { s.step with B := eraK s.B page s.mask 256, worn := s.worn.set page (s.worn.getD page 0 + 1) } by unfold FlS.eraS; rw [ho]; rfl)
        have hw4 : (ownInts vw s.worn * (blk p (.cells (flCells (.slice (some ⟨g, 0, Option.none⟩) s.B.length cap) vw s.step) 96 (0, 0)) * (own 5 1 (.slice (some ⟨g, 0, Option.none⟩) s.B.length cap) s.B.length (vbs (eraK s.B page s.mask 256)) * F))).on wr := by
          have h9 := Hw.out
          rw [SP.mul_left_comm (own _ _ _ _ _), SP.mul_left_comm (blk _ _)] at h9
          exact h9
        obtain ⟨gw, cw2, rfl, hc5, hc6⟩ := own_block hw4 (by omega)
        unfold maxLen at hc6
        obtain ⟨y, hy⟩ : ∃ y, s.worn[page]? = some y := ⟨_, List.getElem?_eq_getElem hw⟩
        have hy2 : s.worn.getD page 0 = y := by rw [List.getD_eq_getElem?_getD, hy]; rfl
        have hyl : y ≤ 1099511627776 := Hwn.out y (List.mem_of_getElem? hy)
        rw [hy2] at HW
        have cb := own_cell hw4 page (.int .i64 (y : Int)) (by simp [hy])
        have fr := own_free hw4 page
        have hst := own_store hw4 (j := page) hw (.int .i64 ((y : Int) + 1))
        rw [show (s.worn.map fun n => Value.int .i64 ((n : Nat) : Int)).set page (.int .i64 ((y : Int) + 1)) = (s.worn.set page (y + 1)).map fun n => Value.int .i64 ((n : Nat) : Int) by rw [List.map_set]; congr 2] at hst
        have Hst2 := hide hst
        have hpi : (page : Int) < s.worn.length := by omega
        clear ho hw4 hy hy2 hst
        go_wp2_with fail
        go_ret
        refine ⟨by rw [HE.out]; rfl, Flash.ofParts (vb := .slice (some ⟨g, 0, Option.none⟩) s.B.length cap) (vw := .slice (some ⟨gw, 0, Option.none⟩) s.worn.length cw2) ?_, Hstr.out.setCell _ _⟩
        rw [HW.out]
        have h9 := Hst2.out
        rw [SP.mul_left_comm, SP.mul_left_comm (own _ _ _ _ _) (own _ _ _ _ _)] at h9
        show (_ * (own 5 1 _ (eraK s.B page s.mask 256).length (vbs (eraK s.B page s.mask 256)) * (own 3 1 _ (s.worn.set page (y + 1)).length ((s.worn.set page (y + 1)).map fun n => Value.int .i64 ((n : Nat) : Int)) * F))).on _
        rw [eraK_length, List.length_set]
        exact h9
end Go.Proofs.Ytjmgnfpcieofkaa
