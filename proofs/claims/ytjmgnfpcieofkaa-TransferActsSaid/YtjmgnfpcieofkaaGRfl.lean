/- LAID TOGETHER: RFl1, RFl2, RFlM, RFl3, RFl4. -/
import Derived.Test.YtjmgnfpcieofkaaFlash7
import Derived.Test.YtjmgnfpcieofkaaGTorn
import Derived.Test.YtjmgnfpcieofkaaFlashTearsMath
/- The document's flash: Fail, Power, fails. -/
namespace Go.Proofs.Ytjmgnfpcieofkaa
open Go.ChangeShapes Go.WideShapes Go.ChangeAt Go.RowKit
set_option linter.unusedVariables false
set_option linter.unusedSimpArgs false

def rfCells (vb vw : Value) (s : FlS) : Array Value := #[vb, .int .i64 (s.lf : Int), .int .i64 (s.lt : Int), .bool s.armed, .int .i64 (s.left : Int), .int .u32 (s.tear : Int), .bool s.off, vw, .int .i64 (s.steps : Int)]
/-- the document's flash in memory -/
def RFlash (p : Nat) (s : FlS) : SP := ex fun x : Value × Value => blk p (.cells (rfCells x.1 x.2 s) 44 (0, 0)) * (ownBy x.1 s.B * ownInts x.2 s.worn)
theorem RFlash.open {p : Nat} {s : FlS} {F : SP} {w : World} (h : (RFlash p s * F).on w) :
    ∃ vb vw, (blk p (.cells (rfCells vb vw s) 44 (0, 0)) * ((ownBy vb s.B * ownInts vw s.worn) * F)).on w := by
  obtain ⟨⟨vb, vw⟩, h⟩ := on_ex_mul.1 h
  exact ⟨vb, vw, by rw [← SP.mul_assoc]; exact h⟩
theorem RFlash.shut {p : Nat} {s : FlS} {F : SP} {w : World} {vb vw : Value} (h : (blk p (.cells (rfCells vb vw s) 44 (0, 0)) * ((ownBy vb s.B * ownInts vw s.worn) * F)).on w) : (RFlash p s * F).on w :=
  on_ex_mul.2 ⟨(vb, vw), by rw [SP.mul_assoc]; exact h⟩
theorem RFlash.parts {p : Nat} {s : FlS} {F : SP} {w : World} (h : (RFlash p s * F).on w) (ok : s.Ok) :
    ∃ g cap vw, s.B.length ≤ cap ∧ cap ≤ maxLen ∧ (blk p (.cells (rfCells (.slice (some ⟨g, 0, Option.none⟩) s.B.length cap) vw s) 44 (0, 0)) * (ownBy (.slice (some ⟨g, 0, Option.none⟩) s.B.length cap) s.B * (ownInts vw s.worn * F))).on w := by
  obtain ⟨vb, vw, h⟩ := RFlash.open h
  rw [SP.mul_assoc] at h
  have h1 := ok.pages
  have h2 := ok.most
  obtain ⟨g, cap, rfl, h3, h4⟩ := own_block h.right (by omega)
  exact ⟨g, cap, vw, h3, h4, h⟩
theorem RFlash.ofParts {p : Nat} {s : FlS} {F : SP} {w : World} {vb vw : Value} (h : (blk p (.cells (rfCells vb vw s) 44 (0, 0)) * (ownBy vb s.B * (ownInts vw s.worn * F))).on w) : (RFlash p s * F).on w := by
  rw [← SP.mul_assoc (ownBy vb s.B)] at h
  exact RFlash.shut h

set_option maxHeartbeats 1000000 in
theorem rfail_any (p : Nat) (s : FlS) (F : SP) (w : World) (h : (RFlash p s * F).on w) (n t : Nat) :
    Calls Try.prog 27 #[fptr p, .int .i64 n, .int .u32 t] w fun e w' => e = .returned (.int .i64 0) ∧ (RFlash p { s with armed := true, left := n, tear := t } * F).on w' ∧ Str w w' := by
  obtain ⟨vb, vw, h⟩ := RFlash.open h
  have hb := on_blk_mul h
  have c3 := cell_of_row w p 3 _ _ _ hb
  have c4 := cell_of_row w p 4 _ _ _ hb
  have c5 := cell_of_row w p 5 _ _ _ hb
  have fr := fun j => frozen_of_row w p j _ _ hb
  simp only [rfCells] at c3 c4 c5
  have H := hide h
  clear h hb
  go_enter Try.func27, Try.ntmps27
  go_wp2
  go_ret
  refine ⟨rfl, RFlash.shut (vb := vb) (vw := vw) ?_, (((Str.refl _).setCell _ _).setCell _ _).setCell _ _⟩
  exact ((H.out.setCell (i := 3) _).setCell (i := 4) _).setCell (i := 5) _

set_option maxHeartbeats 1000000 in
theorem rpower_any (p : Nat) (s : FlS) (F : SP) (w : World) (h : (RFlash p s * F).on w) :
    Calls Try.prog 28 #[fptr p] w fun e w' => (∃ v, e = .returned v) ∧ (RFlash p { s with off := false, armed := false } * F).on w' ∧ Str w w' := by
  obtain ⟨vb, vw, h⟩ := RFlash.open h
  have hb := on_blk_mul h
  have c6 := cell_of_row w p 6 _ _ _ hb
  have c3 := cell_of_row w p 3 _ _ _ hb
  have fr := fun j => frozen_of_row w p j _ _ hb
  simp only [rfCells] at c6 c3
  have H := hide h
  clear h hb
  go_enter Try.func28, Try.ntmps28
  go_wp2
  go_end0
  refine ⟨⟨_, rfl⟩, RFlash.shut (vb := vb) (vw := vw) ?_, ((Str.refl _).setCell _ _).setCell _ _⟩
  exact (H.out.setCell (i := 6) _).setCell (i := 3) _

set_option maxHeartbeats 1000000 in
theorem rfails_any (p : Nat) (s : FlS) (F : SP) (w : World) (h : (RFlash p s * F).on w) (ok : s.Ok) (hst : s.steps ≤ 1099511627776) :
    Calls Try.prog 83 #[fptr p] w fun e w' => e = .returned (.bool s.fails) ∧ (RFlash p s.step * F).on w' ∧ Str w w' := by
  obtain ⟨vb, vw, h⟩ := RFlash.open h
  have hb := on_blk_mul h
  have H := hide h
  clear h
  have hl := ok.left
  have c3 := cell_of_row w p 3 _ _ _ hb
  have c4 := cell_of_row w p 4 _ _ _ hb
  have c6 := cell_of_row w p 6 _ _ _ hb
  have c8 := cell_of_row w p 8 _ _ _ hb
  have fr := fun j => frozen_of_row w p j _ _ hb
  simp only [rfCells] at c3 c4 c6 c8
  clear hb
  cases ha : s.armed with
  | false =>
    rw [ha] at c3
    have HM := hide (show s.fails = false by simp [FlS.fails, ha])
    have HS := hide (show s.step = { s with left := s.left, steps := s.steps + 1 } by simp [FlS.step, FlS.fails, ha])
    clear ha
    go_enter Try.func83, Try.ntmps83
    go_wp2
    go_ret
    refine ⟨by rw [HM.out]; rfl, RFlash.shut (vb := vb) (vw := vw) ?_, (Str.refl _).setCell _ _⟩
    rw [HS.out]
    exact H.out.setCell (i := 8) _
  | true =>
    rw [ha] at c3
    by_cases hz : s.left = 0
    · have e0 : ((s.left : Int) == 0) = true := by rw [hz]; rfl
      have HM := hide (show s.fails = true by simp [FlS.fails, ha, hz])
      have HS := hide (show s.step = { s with armed := false, off := true } by simp [FlS.step, FlS.fails, ha, hz])
      clear ha hz
      go_enter Try.func83, Try.ntmps83
      go_wp2
      go_ret
      refine ⟨by rw [HM.out]; rfl, RFlash.shut (vb := vb) (vw := vw) ?_, ((Str.refl _).setCell _ _).setCell _ _⟩
      rw [HS.out]
      exact (H.out.setCell (i := 3) _).setCell (i := 6) _
    · have e0 : ((s.left : Int) == 0) = false := by rw [beq_eq_false_iff_ne]; omega
      have h1 : 1 ≤ s.left := by omega
      have HM := hide (show s.fails = false by simp [FlS.fails, ha, hz])
      have HS := hide (show s.step = { s with left := s.left - 1, steps := s.steps + 1 } by simp [FlS.step, FlS.fails, ha, hz])
      have HL := hide (show (s.left : Int) - 1 = ((s.left - 1 : Nat) : Int) by omega)
      clear ha hz
      go_enter Try.func83, Try.ntmps83
      go_wp2
      go_ret
      refine ⟨by rw [HM.out]; rfl, RFlash.shut (vb := vb) (vw := vw) ?_, ((Str.refl _).setCell _ _).setCell _ _⟩
      rw [HS.out]
      have := (H.out.setCell (i := 4) (.int .i64 ((s.left : Int) - 1))).setCell (i := 8) (.int .i64 ((s.steps : Int) + 1))
      rw [HL.out] at this ⊢
      exact this
end Go.Proofs.Ytjmgnfpcieofkaa

/- The document's flash: Erase. -/
namespace Go.Proofs.Ytjmgnfpcieofkaa
open Go.ChangeShapes Go.WideShapes Go.ChangeAt Go.RowKit
set_option linter.unusedVariables false
set_option linter.unusedSimpArgs false

set_option maxRecDepth 100000 in
set_option maxHeartbeats 4000000 in
theorem rerase_off (p : Nat) (s : FlS) (F : SP) (w : World) (h : (RFlash p s * F).on w) (hoff : s.off = true) (page : Nat) :
    Calls Try.prog 48 #[fptr p, .int .i64 page] w fun e w' => e = .returned (.int .i64 5) ∧ w = w' := by
  obtain ⟨vb, vw, h⟩ := RFlash.open h
  have c6 := cell_of_row w p 6 _ _ _ (on_blk_mul h)
  simp only [rfCells] at c6
  rw [hoff] at c6
  clear h hoff
  go_enter Try.func48, Try.ntmps48
  go_wp2_with fail
  go_ret
  exact ⟨rfl, rfl⟩
set_option maxRecDepth 100000 in
set_option maxHeartbeats 4000000 in
theorem rerase_beyond (p : Nat) (s : FlS) (F : SP) (w : World) (h : (RFlash p s * F).on w) (ok : s.Ok) (hoff : s.off = false) (page : Nat) (hp : page ≤ 1000000) (hw : s.worn.length ≤ page) :
    Calls Try.prog 48 #[fptr p, .int .i64 page] w fun e w' => e = .returned (.int .i64 3) ∧ w = w' := by
  have hm := ok.most
  obtain ⟨g, cap, vw, hc1, hc2, h2⟩ := RFlash.parts h ok
  obtain ⟨aw, cw, rfl, hc3, hc4, _, _⟩ := own_value h2.right.right
  have c6 := cell_of_row w p 6 _ _ _ (on_blk_mul h2)
  have c7 := cell_of_row w p 7 _ _ _ (on_blk_mul h2)
  simp only [rfCells] at c6 c7
  rw [hoff] at c6
  unfold maxLen at hc2 hc4
  clear h h2 ok hoff
  go_enter Try.func48, Try.ntmps48
  go_wp2_with fail
  go_ret
  exact ⟨rfl, rfl⟩
set_option maxRecDepth 100000 in
set_option maxHeartbeats 8000000 in
theorem rerase_on (p : Nat) (s : FlS) (F : SP) (w : World) (h : (RFlash p s * F).on w) (ok : s.Ok) (hst : s.steps ≤ 1099511627776) (hoff : s.off = false) (page : Nat) (hw : page < s.worn.length) (hfree : s.lt = 0) (hwn : ∀ x ∈ s.worn, x ≤ 1099511627776) :
    Calls Try.prog 48 #[fptr p, .int .i64 page] w fun e w' => e = .returned (.int .i64 ((if s.step.off then 5 else 0 : Nat) : Int)) ∧ (RFlash p (s.eraS page) * F).on w' ∧ Str w w' := by
  obtain ⟨er, her⟩ : ∃ er, er = (if s.step.off then 5 else 0 : Nat) := ⟨_, rfl⟩
  rw [← her]
  have Her := hide her
  clear her
  have hm := ok.most
  have hpg := ok.pages
  have hS := hide (rfails_any p s F w h ok hst)
  have ok1 := FlS.step_ok ok
  obtain ⟨g, cap, vw, hc1, hc2, h2⟩ := RFlash.parts h ok
  obtain ⟨aw, cw, rfl, hc3, hc4, _, _⟩ := own_value h2.right.right
  have c1 := cell_of_row w p 1 _ _ _ (on_blk_mul h2)
  have c2 := cell_of_row w p 2 _ _ _ (on_blk_mul h2)
  have c6 := cell_of_row w p 6 _ _ _ (on_blk_mul h2)
  have c7 := cell_of_row w p 7 _ _ _ (on_blk_mul h2)
  simp only [rfCells] at c1 c2 c6 c7
  rw [hoff] at c6
  rw [hfree] at c2
  unfold maxLen at hc2 hc4
  have Hwn := hide hwn
  have hB : s.B.length ≤ 16384 := by omega
  have hp64 : page < 64 := by omega
  have hend : 256 * page + 256 ≤ s.B.length := by omega
  have Hoff := hide hoff
  have hpi : (page : Int) < s.worn.length := by omega
  have Hw0 := hide hw
  clear h h2 ok hwn hst hpg hm hfree hoff hw
  have HL : (s.lf : Int) ≤ page ∨ (page : Int) < s.lf := by omega
  go_enter Try.func48, Try.ntmps48
  rcases HL with hl | hl
  all_goals
    go_wp2_with fail
    refine hS.out.mono ?_
    clear hS c1 c2 c6 c7 hl
    rintro e w1 ⟨rfl, h1, hs1⟩
    obtain ⟨g, cap, vw, hc1, hc2, h1⟩ := RFlash.parts h1 ok1
    rw [FlS.step_B, FlS.step_worn] at h1
    rw [FlS.step_B] at hc1
    have H1 := hide h1
    have Hs1 := hide hs1
    unfold maxLen at hc2
    have hst : s.step.tear = s.tear := by unfold FlS.step; split <;> rfl
    have Hst0 := hide hst
    have Hok1 := hide ok1
    clear h1 hs1 ok1 hst
    cases hf : s.fails with
    | true =>
      have hmk : s.mask = s.tear := by simp [FlS.mask, hf]
      have hso : s.step.off = true := by simp [FlS.step, hf]
      have HE5 := hide (show er = 5 by rw [Her.out, hso]; rfl)
      have HW := hide (show s.eraS page = { s.step with B := eraK s.B page s.mask 256, worn := s.worn } by unfold FlS.eraS; rw [hso]; rfl)
      have Hmk := hide hmk
      clear hmk hso hf Hoff
      go_wp2_with fail
      go_loopw [6] (fun i wr => ∃ k : Nat, k ≤ 256 ∧ i = .int .i64 k ∧ (blk p (.cells (rfCells (.slice (some ⟨g, 0, Option.none⟩) s.B.length cap) vw s.step) 44 (0, 0)) * (own 5 1 (.slice (some ⟨g, 0, Option.none⟩) s.B.length cap) s.B.length (vbs (eraK s.B page s.mask k)) * (ownInts vw s.worn * F))).on wr ∧ Str w wr) (fun i _ => 256 - (intOf i).toNat)
      case atStart => exact ⟨0, by omega, rfl, H1.out, Hs1.out⟩
      case round =>
        obtain ⟨k, hk, rfl, hw', hstr⟩ := hrel
        have Hw := hide hw'
        have Hstr := hide hstr
        have hb := on_blk_mul hw'
        have c0 := cell_of_row wr p 0 _ _ _ hb
        have c5 := cell_of_row wr p 5 _ _ _ hb
        simp only [rfCells] at c0 c5
        rw [Hst0.out] at c5
        clear hb hstr
        by_cases hlt : k < 256
        · have hw2 : (own 5 1 (.slice (some ⟨g, 0, Option.none⟩) s.B.length cap) s.B.length (vbs (eraK s.B page s.mask k)) * (ownInts vw s.worn * F)).on wr := hw'.right
          have hpl := eraK_length s.B page s.mask k
          obtain ⟨x, hx⟩ : ∃ x, (vbs (eraK s.B page s.mask k))[256 * page + k]? = some x := ⟨_, List.getElem?_eq_getElem (by simp [hpl]; omega)⟩
          have cb := own_cell hw2 (256 * page + k) _ hx
          have fr := own_free hw2 (256 * page + k)
          have hE : eraK s.B page s.mask (k + 1) = if s.mask / 2 ^ (k % 32) % 2 = 1 then (eraK s.B page s.mask k).set (page * 256 + k) 255 else eraK s.B page s.mask k := rfl
          have Hx := hide hx
          have e1 : (k : Int).tmod 32 = ((k % 32 : Nat) : Int) := by rw [Int.tmod_eq_emod_of_nonneg (by omega)]; omega
          have hba : ((s.tear : Int) / 2 ^ (k % 32)).tmod 2 = ((s.mask / 2 ^ (k % 32) % 2 : Nat) : Int) := by
            rw [Hmk.out, show ((s.tear : Int) / 2 ^ (k % 32)) = ((s.tear / 2 ^ (k % 32) : Nat) : Int) by simp]
            generalize s.tear / 2 ^ (k % 32) = y
            rw [Int.tmod_eq_emod_of_nonneg (by omega)]
            omega
          clear hw' hw2 hx
          by_cases hbit : s.mask / 2 ^ (k % 32) % 2 = 1
          · rw [if_pos hbit] at hE
            have HE := hide hE
            have e2 : (((s.tear : Int) / 2 ^ (k % 32)).tmod 2 == 1) = true := by rw [hba, hbit]; rfl
            clear hE hbit hba
            go_wp2_with fail
            refine ⟨⟨k + 1, by omega, by simp, ?_, Hstr.out.setCell _ _⟩, by simp [intOf]; omega⟩
            have hw3 : (own 5 1 (.slice (some ⟨g, 0, Option.none⟩) s.B.length cap) s.B.length (vbs (eraK s.B page s.mask k)) * (blk p (.cells (rfCells (.slice (some ⟨g, 0, Option.none⟩) s.B.length cap) vw s.step) 44 (0, 0)) * (ownInts vw s.worn * F))).on wr := by
              rw [SP.mul_left_comm]; exact Hw.out
            have h2 := own_store hw3 (j := 256 * page + k) (by omega) (vb 255)
            rw [vbs_set, show (eraK s.B page s.mask k).set (256 * page + k) 255 = eraK s.B page s.mask (k + 1) by rw [HE.out, Nat.mul_comm 256 page], SP.mul_left_comm] at h2
            exact h2
          · rw [if_neg hbit] at hE
            have HE := hide hE
            have e2 : (((s.tear : Int) / 2 ^ (k % 32)).tmod 2 == 1) = false := by rw [hba]; simp only [beq_eq_false_iff_ne]; omega
            clear hE hbit hba
            go_wp2_with fail
            exact ⟨⟨k + 1, by omega, by simp, by rw [HE.out]; exact Hw.out, Hstr.out⟩, by simp [intOf]; omega⟩
        · have hk6 : k = 256 := by omega
          subst hk6
          clear hw'
          go_wp2_with fail
          go_ret
          refine ⟨by rw [HE5.out]; rfl, RFlash.ofParts (vb := .slice (some ⟨g, 0, Option.none⟩) s.B.length cap) (vw := vw) ?_, Hstr.out⟩
          rw [HW.out]
          show (_ * (own 5 1 _ (eraK s.B page s.mask 256).length (vbs (eraK s.B page s.mask 256)) * (ownInts vw s.worn * F))).on wr
          rw [eraK_length]
          exact Hw.out
    | false =>
      have hmk : s.mask = 4294967295 := by simp [FlS.mask, hf]
      have hso : s.step.off = false := by simp [FlS.step, hf, Hoff.out]
      have HE5 := hide (show er = 0 by rw [Her.out, hso]; rfl)
      have HW := hide (show s.eraS page = { s.step with B := eraK s.B page s.mask 256, worn := s.worn.set page (s.worn.getD page 0 + 1) } by unfold FlS.eraS; rw [hso]; rfl)
      have Hmk := hide hmk
      clear hmk hso hf Hoff
      go_wp2_with fail
      go_loopw [6] (fun i wr => ∃ k : Nat, k ≤ 256 ∧ i = .int .i64 k ∧ (blk p (.cells (rfCells (.slice (some ⟨g, 0, Option.none⟩) s.B.length cap) vw s.step) 44 (0, 0)) * (own 5 1 (.slice (some ⟨g, 0, Option.none⟩) s.B.length cap) s.B.length (vbs (eraK s.B page s.mask k)) * (ownInts vw s.worn * F))).on wr ∧ Str w wr) (fun i _ => 256 - (intOf i).toNat)
      case atStart => exact ⟨0, by omega, rfl, H1.out, Hs1.out⟩
      case round =>
        obtain ⟨k, hk, rfl, hw', hstr⟩ := hrel
        have Hw := hide hw'
        have Hstr := hide hstr
        have hb := on_blk_mul hw'
        have c0 := cell_of_row wr p 0 _ _ _ hb
        have c7 := cell_of_row wr p 7 _ _ _ hb
        simp only [rfCells] at c0 c7
        clear hb hstr
        by_cases hlt : k < 256
        · have hw2 : (own 5 1 (.slice (some ⟨g, 0, Option.none⟩) s.B.length cap) s.B.length (vbs (eraK s.B page s.mask k)) * (ownInts vw s.worn * F)).on wr := hw'.right
          have hpl := eraK_length s.B page s.mask k
          obtain ⟨x, hx⟩ : ∃ x, (vbs (eraK s.B page s.mask k))[256 * page + k]? = some x := ⟨_, List.getElem?_eq_getElem (by simp [hpl]; omega)⟩
          have cb := own_cell hw2 (256 * page + k) _ hx
          have fr := own_free hw2 (256 * page + k)
          have hE : eraK s.B page s.mask (k + 1) = if s.mask / 2 ^ (k % 32) % 2 = 1 then (eraK s.B page s.mask k).set (page * 256 + k) 255 else eraK s.B page s.mask k := rfl
          rw [if_pos (by rw [Hmk.out]; exact ones32 _ (Nat.mod_lt _ (by decide)))] at hE
          have HE := hide hE
          clear hw' hw2 hx hE
          go_wp2_with fail
          refine ⟨⟨k + 1, by omega, by simp, ?_, Hstr.out.setCell _ _⟩, by simp [intOf]; omega⟩
          have hw3 : (own 5 1 (.slice (some ⟨g, 0, Option.none⟩) s.B.length cap) s.B.length (vbs (eraK s.B page s.mask k)) * (blk p (.cells (rfCells (.slice (some ⟨g, 0, Option.none⟩) s.B.length cap) vw s.step) 44 (0, 0)) * (ownInts vw s.worn * F))).on wr := by
            rw [SP.mul_left_comm]; exact Hw.out
          have h2 := own_store hw3 (j := 256 * page + k) (by omega) (vb 255)
          rw [vbs_set, show (eraK s.B page s.mask k).set (256 * page + k) 255 = eraK s.B page s.mask (k + 1) by rw [HE.out, Nat.mul_comm 256 page], SP.mul_left_comm] at h2
          exact h2
        · have hk6 : k = 256 := by omega
          subst hk6
          clear hw'
          have hw4 : (ownInts vw s.worn * (blk p (.cells (rfCells (.slice (some ⟨g, 0, Option.none⟩) s.B.length cap) vw s.step) 44 (0, 0)) * (own 5 1 (.slice (some ⟨g, 0, Option.none⟩) s.B.length cap) s.B.length (vbs (eraK s.B page s.mask 256)) * F))).on wr := by
            have h9 := Hw.out
            rw [SP.mul_left_comm (own _ _ _ _ _), SP.mul_left_comm (blk _ _)] at h9
            exact h9
          have hw := Hw0.out
          obtain ⟨gw, cw2, rfl, hc5, hc6⟩ := own_block hw4 (by omega)
          unfold maxLen at hc6
          obtain ⟨y, hy⟩ : ∃ y, s.worn[page]? = some y := ⟨_, List.getElem?_eq_getElem hw⟩
          have hy2 : s.worn.getD page 0 = y := by rw [List.getD_eq_getElem?_getD, hy]; rfl
          have hyl : y ≤ 1099511627776 := Hwn.out y (List.mem_of_getElem? hy)
          rw [hy2] at HW
          have cb := own_cell hw4 page (.int .i64 (y : Int)) (by simp [hy])
          have fr := own_free hw4 page
          have hst := own_store hw4 (j := page) hw (.int .i64 ((y : Int) + 1))
          rw [show (s.worn.map fun n => Value.int .i64 ((n : Nat) : Int)).set page (.int .i64 ((y : Int) + 1)) = (s.worn.set page (y + 1)).map fun n => Value.int .i64 ((n : Nat) : Int) by rw [List.map_set]; congr 2] at hst
          have Hst2 := hide hst
          clear hw4 hy hy2 hst hw
          go_wp2_with fail
          go_ret
          refine ⟨by rw [HE5.out]; rfl, RFlash.ofParts (vb := .slice (some ⟨g, 0, Option.none⟩) s.B.length cap) (vw := .slice (some ⟨gw, 0, Option.none⟩) s.worn.length cw2) ?_, Hstr.out.setCell _ _⟩
          rw [HW.out]
          have h9 := Hst2.out
          rw [SP.mul_left_comm, SP.mul_left_comm (own _ _ _ _ _) (own _ _ _ _ _)] at h9
          show (_ * (own 5 1 _ (eraK s.B page s.mask 256).length (vbs (eraK s.B page s.mask 256)) * (own 3 1 _ (s.worn.set page (y + 1)).length ((s.worn.set page (y + 1)).map fun n => Value.int .i64 ((n : Nat) : Int)) * F))).on _
          rw [eraK_length, List.length_set]
          exact h9
theorem rera_any (p : Nat) (s : FlS) (F : SP) (w : World) (h : (RFlash p s * F).on w) (n : Nat) (fit : s.Fit n) (hn : n ≤ 1099511000000) (page : Nat) (hp : page ≤ 1000000) :
    Calls Try.prog 48 #[fptr p, .int .i64 page] w fun e w' => e = .returned (.int .i64 ((s.era page).2 : Int)) ∧ (RFlash p (s.era page).1 * F).on w' ∧ Str w w' := by
  unfold FlS.era
  by_cases ho : s.off = true
  · rw [if_pos ho]
    refine (rerase_off p s F w h ho page).mono ?_
    rintro e w' ⟨rfl, rfl⟩
    exact ⟨rfl, h, Str.refl _⟩
  · rw [if_neg ho]
    have ho' : s.off = false := by simpa using ho
    by_cases hw : s.worn.length ≤ page
    · rw [if_pos hw]
      refine (rerase_beyond p s F w h fit.ok ho' page hp hw).mono ?_
      rintro e w' ⟨rfl, rfl⟩
      exact ⟨rfl, h, Str.refl _⟩
    · rw [if_neg hw]
      exact rerase_on p s F w h fit.ok (by have := fit.steps; omega) ho' page (by omega) fit.free (fun x hx => by have := fit.worn x hx; omega)
end Go.Proofs.Ytjmgnfpcieofkaa

/- Bytes that lose bits. No Go function is spoken of. -/
namespace Go.Proofs.Ytjmgnfpcieofkaa
set_option linter.unusedVariables false
set_option linter.unusedSimpArgs false

theorem sub_and8 : ∀ x : Fin 256, ∀ z : Fin 256, x.val - (x.val &&& z.val) = x.val &&& (255 - z.val) := by decide +kernel
theorem not_and8 : ∀ y : Fin 256, ∀ m : Fin 256, 255 - ((255 - y.val) &&& m.val) = y.val ||| (255 - m.val) := by decide +kernel
theorem not_not8 (y : Nat) (h : y < 256) : 255 - (255 - y) = y := by omega
/-- is one of the first k bytes one of which a bit would have to rise? -/
def rbadK (B : List UInt8) (a : Nat) (lb : List UInt8) : Nat → Bool
  | 0 => false
  | k + 1 => rbadK B a lb k || ((lb.getD k 0).toNat &&& (255 - (B.getD (a + k) 0).toNat)) != 0
theorem rise8 : ∀ x : Fin 256, ∀ y : Fin 256, (x.val &&& y.val != y.val) = (y.val &&& (255 - x.val) != 0) := by decide +kernel
theorem rbadK_eq (B : List UInt8) (a : Nat) (lb : List UInt8) : ∀ k, k ≤ 4 → badK B a lb 4294967295 k = rbadK B a lb k
  | 0, _ => rfl
  | k + 1, h => by
    unfold badK rbadK
    rw [rbadK_eq B a lb k (by omega), dropByte_full _ _ _ (by omega)]
    congr 1
    have h1 := UInt8.toNat_lt (B.getD (a + k) 0)
    have h2 := UInt8.toNat_lt (lb.getD k 0)
    have := rise8 ⟨_, h1⟩ ⟨_, h2⟩
    simp only at this
    rw [← this]
    generalize B.getD (a + k) 0 = x
    generalize lb.getD k 0 = y
    rw [← UInt8.toNat_and]
    by_cases hc : x &&& y = y
    · rw [hc]; simp
    · have h3 : (x &&& y).toNat ≠ y.toNat := fun c => hc (UInt8.toNat_inj.1 c)
      rw [bne_iff_ne.2 hc, bne_iff_ne.2 h3]
/-- what is left of a byte -/
theorem drop_torn (was want : UInt8) (m : Nat) : was.toNat - ((was.toNat &&& (255 - want.toNat)) &&& (m % 256)) = (dropByte was want m).toNat := by
  have h1 := UInt8.toNat_lt was
  have h2 := UInt8.toNat_lt want
  have h3 : m % 256 < 256 := Nat.mod_lt _ (by decide)
  have hz : (255 - want.toNat) &&& (m % 256) < 256 := Nat.lt_of_le_of_lt Nat.and_le_right h3
  rw [dropByte_toNat, Nat.and_assoc]
  have e1 := sub_and8 ⟨_, h1⟩ ⟨_, hz⟩
  have e2 := not_and8 ⟨_, h2⟩ ⟨_, h3⟩
  simp only at e1 e2
  rw [e1, e2]
theorem drop_whole (was want : UInt8) (k : Nat) (hk : k < 4) : was.toNat - (was.toNat &&& (255 - want.toNat)) = (dropByte was want (4294967295 / 2 ^ (8 * k))).toNat := by
  have h1 := UInt8.toNat_lt was
  have h2 := UInt8.toNat_lt want
  have e1 := sub_and8 ⟨_, h1⟩ ⟨255 - want.toNat, by omega⟩
  simp only at e1
  rw [e1, not_not8 _ h2, dropByte_full _ _ _ hk, UInt8.toNat_and]

end Go.Proofs.Ytjmgnfpcieofkaa

/- The document's flash: Program. -/
namespace Go.Proofs.Ytjmgnfpcieofkaa
open Go.ChangeShapes Go.WideShapes Go.ChangeAt Go.RowKit
set_option linter.unusedVariables false
set_option linter.unusedSimpArgs false

set_option maxRecDepth 100000 in
set_option maxHeartbeats 16000000 in
theorem rprogram_on (p : Nat) (s : FlS) (F : SP) (w : World) (h : (RFlash p s * F).on w) (ok : s.Ok) (hst : s.steps ≤ 1099511000000) (hoff : s.off = false) (hfree : s.lt = 0) (a : Nat) (v : Value) (lb : List UInt8) (words : Nat) (ha4 : a % 4 = 0) (hlb : lb.length = words * 4) (hin : a + lb.length ≤ s.B.length)
    (hrd : ∀ w, F.on w → IsBytes w v lb) :
    Calls Try.prog 50 #[fptr p, .int .i64 a, v] w fun e w' => e = .returned (.int .i64 ((FlS.progW lb a words 0 s).2 : Int)) ∧ (RFlash p (FlS.progW lb a words 0 s).1 * F).on w' ∧ Str w w' := by
  have hv := hrd w h.right
  obtain ⟨av, cv, rfl, hcv, hmv, hlv, hnv⟩ := hv
  have hpg := ok.pages
  have hmo := ok.most
  have hB : s.B.length ≤ 16384 := by omega
  obtain ⟨g0, cap0, vw0, hc01, hc02, h2⟩ := RFlash.parts h ok
  have c0 := cell_of_row w p 0 _ _ _ (on_blk_mul h2)
  have c1 := cell_of_row w p 1 _ _ _ (on_blk_mul h2)
  have c2 := cell_of_row w p 2 _ _ _ (on_blk_mul h2)
  have c6 := cell_of_row w p 6 _ _ _ (on_blk_mul h2)
  simp only [rfCells] at c0 c1 c2 c6
  have hoff0 := hoff
  rw [hoff] at c6
  rw [hfree] at c2
  clear hpg hmo h2 hoff hfree
  unfold maxLen at hmv hc02
  have Hrd := hide hrd
  have H := hide h
  have Hlv := hide hlv
  have Hok := hide ok
  have Hoff := hide hoff0
  clear hrd h hlv hnv ok hoff0
  have Hlb := hide hlb
  have e1 : ((a : Int)).tmod 4 = 0 := by rw [Int.tmod_eq_emod_of_nonneg (by omega)]; omega
  have e2 : ((lb.length : Int)).tmod 4 = 0 := by rw [Int.tmod_eq_emod_of_nonneg (by omega)]; omega
  have hnl : lb.length ≤ 16384 := by omega
  obtain ⟨nl, hnl2⟩ : ∃ n, n = lb.length := ⟨_, rfl⟩
  have Hnl := hide hnl2
  rw [← hnl2] at hcv e2 hin hnl hlb ⊢
  have hlb4 : words * 4 = nl := by omega
  clear hnl2 hlb ha4
  have z1 : decide ((a : Int) < 0) = false := decide_eq_false (by omega)
  have z2 : decide (s.B.length < a) = false := decide_eq_false (by omega)
  have z3 : decide ((s.B.length : Int) < (a : Int)) = false := decide_eq_false (by omega)
  have z4 : decide ((s.B.length : Int) - (a : Int) < (nl : Int)) = false := decide_eq_false (by omega)
  go_enter Try.func50, Try.ntmps50
  go_wp2_with fail
  clear z1 z2 z3 z4
  go_loopw [7] (fun i wr => ∃ j : Nat, j ≤ nl ∧ i = .int .i64 j ∧ wr = w) (fun i _ => nl - (intOf i).toNat)
  case atStart => exact ⟨0, by omega, rfl, rfl⟩
  case round =>
    obtain ⟨j, hj, rfl, hwr⟩ := hrel
    have hwr2 := hwr.symm
    clear hwr
    subst hwr2
    by_cases hlt : j < nl
    · have hd : ((a : Int) + (j : Int)).tdiv 256 = ((a : Int) + (j : Int)) / 256 := by rw [Int.tdiv_eq_ediv_of_nonneg (by omega)]
      have hd0 : 0 ≤ ((a : Int) + (j : Int)) / 256 := by omega
      have hd1 : ((a : Int) + (j : Int)) / 256 ≤ 100000 := by omega
      have HL : (s.lf : Int) ≤ ((a : Int) + (j : Int)) / 256 ∨ ((a : Int) + (j : Int)) / 256 < s.lf := by omega
      rcases HL with hl | hl
      all_goals
        go_wp2_with fail
        exact ⟨⟨j + 1, by omega, by simp⟩, by simp [intOf]; omega⟩
    · go_wp2_with fail
      go_loopw [9] (fun i w2 => ∃ (k : Nat) (st : FlS), k ≤ words ∧ i = .int .i64 ((k : Int) * 4) ∧ st.Ok ∧ st.off = false ∧ st.B.length = s.B.length ∧ st.steps ≤ s.steps + k ∧ FlS.progW lb a words 0 s = FlS.progW lb a (words - k) k st ∧ (RFlash p st * F).on w2 ∧ Str w w2) (fun i _ => nl - (intOf i).toNat)
      case atStart => exact ⟨0, s, by omega, rfl, Hok.out, Hoff.out, rfl, by omega, rfl, H.out, Str.refl _⟩
      case round =>
        obtain ⟨k, st, hk, rfl, okt, hofft, hlt2, hst2, heq, hw2, hstr2⟩ := hrel
        by_cases hkl : k < words
        · have Heq := hide heq
          have hS := hide (rfails_any p st F _ hw2 okt (by omega))
          have okt1 := FlS.step_ok okt
          have Hst2 := hide hstr2
          have hl4 : ∀ j, j < 4 → (word4 lb k).getD j 0 = lb.getD (k * 4 + j) 0 := fun j hj => word4_getD lb k j hj
          have Hl4 := hide hl4
          have hstep : FlS.progW lb a (words - k) k st = if st.wordErr (a + k * 4) (word4 lb k) = 0 then FlS.progW lb a (words - (k + 1)) (k + 1) (st.word (a + k * 4) (word4 lb k))
              else (st.word (a + k * 4) (word4 lb k), st.wordErr (a + k * 4) (word4 lb k)) := by
            obtain ⟨m, hm⟩ : ∃ m, words - k = m + 1 := ⟨words - k - 1, by omega⟩
            rw [hm, show words - (k + 1) = m by omega]
            rfl
          have Hstep := hide hstep
          have Hokw := hide (FlS.word_ok okt (a + k * 4) (word4 lb k))
          have Hstw := hide (FlS.word_steps st (a + k * 4) (word4 lb k))
          have Hlnw := hide (FlS.word_length st (a + k * 4) (word4 lb k))
          have Hofft := hide hofft
          clear heq hw2 hstr2 hl4 hstep okt
          generalize word4 lb k = l4 at *
          go_wp2_with fail
          refine hS.out.mono ?_
          clear hS
          rintro e w3 ⟨rfl, h3, hs3⟩
          obtain ⟨g, cap, vw, hc1, hc2, h3⟩ := RFlash.parts h3 okt1
          rw [FlS.step_B, FlS.step_worn] at h3
          rw [FlS.step_B] at hc1
          have H3 := hide h3
          have Hs3 := hide (Hst2.out.trans hs3)
          unfold maxLen at hc2
          have hstt : st.step.tear = st.tear := by unfold FlS.step; split <;> rfl
          have Hstt := hide hstt
          have ht32 : st.tear < 4294967296 := by have := okt1.tear; rw [hstt] at this; exact this
          clear h3 hs3 hstt okt1 Hst2
          cases hf : st.fails with
          | true =>
            have hmk : st.mask = st.tear := by simp [FlS.mask, hf]
            have hso : st.step.off = true := by simp [FlS.step, hf]
            have Hmk := hide hmk
            have HE5 := hide (show st.wordErr (a + k * 4) l4 = 5 by unfold FlS.wordErr; rw [if_pos hso])
            clear hmk hso hf Hofft
            go_wp2_with fail
            go_loopw [11, 12] (fun bv i w4 => ∃ j : Nat, j ≤ 4 ∧ i = .int .i64 j ∧ bv = .bool (rbadK st.B (a + k * 4) l4 j) ∧ (blk p (.cells (rfCells (.slice (some ⟨g, 0, Option.none⟩) st.B.length cap) vw st.step) 44 (0, 0)) * (own 5 1 (.slice (some ⟨g, 0, Option.none⟩) st.B.length cap) st.B.length (vbs (progK st.B (a + k * 4) l4 st.mask j)) * (ownInts vw st.worn * F))).on w4 ∧ Str w w4) (fun _ i _ => 4 - (intOf i).toNat)
            case atStart => exact ⟨0, by omega, rfl, rfl, H3.out, Hs3.out⟩
            case round =>
              obtain ⟨j, hj, rfl, rfl, hw', hstr⟩ := hrel
              have Hw := hide hw'
              have Hstr := hide hstr
              have hb := on_blk_mul hw'
              have c0 := cell_of_row _ p 0 _ _ _ hb
              have c5 := cell_of_row _ p 5 _ _ _ hb
              simp only [rfCells] at c0 c5
              rw [Hstt.out] at c5
              clear hb hstr
              by_cases hlt4 : j < 4
              · have hl := Hrd.out _ hw'.right.right.right
                rw [← Hnl.out] at hl
                obtain ⟨_, _, he, _, _, hl, _⟩ := hl
                simp only [Value.slice.injEq] at he
                obtain ⟨rfl, _, rfl⟩ := he
                have hkl4 : k * 4 + j < lb.length := by rw [← Hnl.out]; omega
                obtain ⟨bv, offv, rfl⟩ := Lay.isAddr hl 0 (by simp; omega)
                have cv1 := Lay.cell hl (k * 4 + j) (vbs_get lb (k * 4 + j) hkl4)
                have hbk : lb[k * 4 + j] = l4.getD j 0 := by rw [Hl4.out j hlt4, List.getD_eq_getElem?_getD, List.getElem?_eq_getElem hkl4]; rfl
                rw [hbk] at cv1
                have hw2 : (own 5 1 (.slice (some ⟨g, 0, Option.none⟩) st.B.length cap) st.B.length (vbs (progK st.B (a + k * 4) l4 st.mask j)) * (ownInts vw st.worn * F)).on _ := hw'.right
                have hpl := progK_length st.B (a + k * 4) l4 st.mask j
                have cb := own_cell hw2 (a + k * 4 + j) _ (vbs_get _ (a + k * 4 + j) (by rw [hpl]; omega))
                have fr := own_free hw2 (a + k * 4 + j)
                have HK := hide (show progK st.B (a + k * 4) l4 st.mask (j + 1) = (progK st.B (a + k * 4) l4 st.mask j).set (a + k * 4 + j) (dropByte (st.B.getD (a + k * 4 + j) 0) (l4.getD j 0) (st.mask / 2 ^ (8 * j))) from rfl)
                have HE := hide (show rbadK st.B (a + k * 4) l4 (j + 1) = (rbadK st.B (a + k * 4) l4 j || ((l4.getD j 0).toNat &&& (255 - (st.B.getD (a + k * 4 + j) 0).toNat)) != 0) from rfl)
                have hwas : (progK st.B (a + k * 4) l4 st.mask j)[a + k * 4 + j]'(by rw [hpl]; omega) = st.B.getD (a + k * 4 + j) 0 := by
                  have h0 := progK_later st.B (a + k * 4) l4 st.mask j j (Nat.le_refl _)
                  rw [List.getD_eq_getElem?_getD, List.getElem?_eq_getElem (by rw [hpl]; omega)] at h0
                  exact h0
                rw [hwas] at cb
                have hdr := drop_torn (st.B.getD (a + k * 4 + j) 0) (l4.getD j 0) (st.mask / 2 ^ (8 * j))
                have hp : ((st.tear : Int) / 2 ^ (8 * j)) = ((st.mask / 2 ^ (8 * j) : Nat) : Int) := by rw [Hmk.out]; simp
                have hml : st.mask / 2 ^ (8 * j) ≤ st.mask := Nat.div_le_self _ _
                have hm32 : st.mask < 4294967296 := by rw [Hmk.out]; exact ht32
                have hdl := UInt8.toNat_lt (dropByte (st.B.getD (a + k * 4 + j) 0) (l4.getD j 0) (st.mask / 2 ^ (8 * j)))
                have hwl := UInt8.toNat_lt (st.B.getD (a + k * 4 + j) 0)
                have hbl := UInt8.toNat_lt (l4.getD j 0)
                have Hbk := hide (show ∀ hh : k * 4 + j < lb.length, lb[k * 4 + j]'hh = l4.getD j 0 from fun _ => hbk)
                generalize hDD : dropByte (st.B.getD (a + k * 4 + j) 0) (l4.getD j 0) (st.mask / 2 ^ (8 * j)) = D at *
                clear hDD hwas hw2 hw' hbk hkl4
                generalize rbadK st.B (a + k * 4) l4 j = bad at *
                generalize st.B.getD (a + k * 4 + j) 0 = was at *
                generalize l4.getD j 0 = want at *
                have e1 : bits .andNot .u8 ((was.toNat : Nat) : Int) ((want.toNat : Nat) : Int) = ((was.toNat &&& (255 - want.toNat) : Nat) : Int) := u8_andNot_nat _ _ hwl hbl
                have hd0 : was.toNat &&& (255 - want.toNat) ≤ was.toNat := Nat.and_le_left
                have e3 : bits .andNot .u8 ((want.toNat : Nat) : Int) ((was.toNat : Nat) : Int) = ((want.toNat &&& (255 - was.toNat) : Nat) : Int) := u8_andNot_nat _ _ hbl hwl
                generalize was.toNat &&& (255 - want.toNat) = d0 at *
                generalize want.toNat &&& (255 - was.toNat) = r0 at *
                generalize st.mask / 2 ^ (8 * j) = m at *
                have e4 : bits .and .u8 (d0 : Int) ((m : Int) % 256) = ((d0 &&& (m % 256) : Nat) : Int) := by
                  rw [show ((m : Int) % 256) = ((m % 256 : Nat) : Int) by omega, u8_and_nat _ _ (by omega) (by omega)]
                have hd1 : d0 &&& (m % 256) ≤ d0 := Nat.and_le_left
                generalize d0 &&& (m % 256) = d1 at *
                have e5 : ((was.toNat : Nat) : Int) - (d1 : Int) = ((D.toNat : Nat) : Int) := by omega
                clear hdr
                have hrn : (r0 != 0) = ((r0 : Int) != 0) := by
                  by_cases c : r0 = 0
                  · subst c; rfl
                  · rw [bne_iff_ne.2 c, bne_iff_ne.2 (by omega)]
                have HC : bad = true ∨ (bad = false ∧ ((r0 : Int) != 0) = true) ∨ (bad = false ∧ ((r0 : Int) != 0) = false) := by
                  generalize ((r0 : Int) != 0) = y
                  cases bad <;> cases y <;> simp
                have HRN := hide hrn
                have hdi : (d1 : Int) ≤ (was.toNat : Int) := by omega
                clear hrn
                have hw3 : (own 5 1 (.slice (some ⟨g, 0, Option.none⟩) st.B.length cap) st.B.length (vbs (progK st.B (a + k * 4) l4 st.mask j)) * (blk p (.cells (rfCells (.slice (some ⟨g, 0, Option.none⟩) st.B.length cap) vw st.step) 44 (0, 0)) * (ownInts vw st.worn * F))).on wr := by
                  rw [SP.mul_left_comm]; exact Hw.out
                have h2 := own_store hw3 (j := a + k * 4 + j) (by omega) (vb D)
                rw [vbs_set, ← HK.out, SP.mul_left_comm] at h2
                have hl2 := Hrd.out _ h2.right.right.right
                rw [← Hnl.out] at hl2
                obtain ⟨_, _, he2, _, _, hl2, _⟩ := hl2
                simp only [Value.slice.injEq] at he2
                obtain ⟨rfl, _, rfl⟩ := he2
                have cv2 := Lay.cell hl2 (k * 4 + j) (vbs_get lb (k * 4 + j) (by rw [← Hnl.out]; omega))
                rw [Hbk.out (by rw [← Hnl.out]; omega)] at cv2
                have H2 := hide h2
                clear hw3 h2 hl2 hl
                rcases HC with rfl | ⟨rfl, hr1⟩ | ⟨rfl, hr1⟩
                all_goals
                  go_wp2_with fail
                  refine ⟨⟨j + 1, by omega, by simp, ?_, H2.out, Hstr.out.setCell _ _⟩, by simp [intOf]; omega⟩
                  rw [HE.out, HRN.out]
                  simp_all
              · have h4 : j = 4 := by omega
                subst h4
                have hfin := Hw.out
                have hfin2 : (RFlash p (st.word (a + k * 4) l4) * F).on wr := by
                  refine RFlash.ofParts (vb := .slice (some ⟨g, 0, Option.none⟩) st.B.length cap) (vw := vw) ?_
                  show (_ * (own 5 1 _ (progK st.B (a + k * 4) l4 st.mask 4).length (vbs (progK st.B (a + k * 4) l4 st.mask 4)) * (ownInts vw st.step.worn * F))).on wr
                  rw [progK_length, FlS.step_worn]
                  exact hfin
                have HF := hide hfin2
                clear hfin hfin2 hw'
                generalize rbadK st.B (a + k * 4) l4 4 = bad at *
                go_wp2_with fail
                go_ret
                rw [Heq.out, Hstep.out, if_neg (by rw [HE5.out]; decide)]
                exact ⟨by rw [HE5.out]; rfl, HF.out, Hstr.out⟩
          | false =>
            have hmk : st.mask = 4294967295 := by simp [FlS.mask, hf]
            have hso : st.step.off = false := by simp [FlS.step, hf, Hofft.out]
            have Hmk := hide hmk
            have Hso := hide hso
            clear hmk hso hf Hofft
            go_wp2_with fail
            go_loopw [11, 12] (fun bv i w4 => ∃ j : Nat, j ≤ 4 ∧ i = .int .i64 j ∧ bv = .bool (rbadK st.B (a + k * 4) l4 j) ∧ (blk p (.cells (rfCells (.slice (some ⟨g, 0, Option.none⟩) st.B.length cap) vw st.step) 44 (0, 0)) * (own 5 1 (.slice (some ⟨g, 0, Option.none⟩) st.B.length cap) st.B.length (vbs (progK st.B (a + k * 4) l4 st.mask j)) * (ownInts vw st.worn * F))).on w4 ∧ Str w w4) (fun _ i _ => 4 - (intOf i).toNat)
            case atStart => exact ⟨0, by omega, rfl, rfl, H3.out, Hs3.out⟩
            case round =>
              obtain ⟨j, hj, rfl, rfl, hw', hstr⟩ := hrel
              have Hw := hide hw'
              have Hstr := hide hstr
              have hb := on_blk_mul hw'
              have c0 := cell_of_row _ p 0 _ _ _ hb
              have c5 := cell_of_row _ p 5 _ _ _ hb
              simp only [rfCells] at c0 c5
              rw [Hstt.out] at c5
              clear hb hstr
              by_cases hlt4 : j < 4
              · have hl := Hrd.out _ hw'.right.right.right
                rw [← Hnl.out] at hl
                obtain ⟨_, _, he, _, _, hl, _⟩ := hl
                simp only [Value.slice.injEq] at he
                obtain ⟨rfl, _, rfl⟩ := he
                have hkl4 : k * 4 + j < lb.length := by rw [← Hnl.out]; omega
                obtain ⟨bv, offv, rfl⟩ := Lay.isAddr hl 0 (by simp; omega)
                have cv1 := Lay.cell hl (k * 4 + j) (vbs_get lb (k * 4 + j) hkl4)
                have hbk : lb[k * 4 + j] = l4.getD j 0 := by rw [Hl4.out j hlt4, List.getD_eq_getElem?_getD, List.getElem?_eq_getElem hkl4]; rfl
                rw [hbk] at cv1
                have hw2 : (own 5 1 (.slice (some ⟨g, 0, Option.none⟩) st.B.length cap) st.B.length (vbs (progK st.B (a + k * 4) l4 st.mask j)) * (ownInts vw st.worn * F)).on _ := hw'.right
                have hpl := progK_length st.B (a + k * 4) l4 st.mask j
                have cb := own_cell hw2 (a + k * 4 + j) _ (vbs_get _ (a + k * 4 + j) (by rw [hpl]; omega))
                have fr := own_free hw2 (a + k * 4 + j)
                have HK := hide (show progK st.B (a + k * 4) l4 st.mask (j + 1) = (progK st.B (a + k * 4) l4 st.mask j).set (a + k * 4 + j) (dropByte (st.B.getD (a + k * 4 + j) 0) (l4.getD j 0) (st.mask / 2 ^ (8 * j))) from rfl)
                have HE := hide (show rbadK st.B (a + k * 4) l4 (j + 1) = (rbadK st.B (a + k * 4) l4 j || ((l4.getD j 0).toNat &&& (255 - (st.B.getD (a + k * 4 + j) 0).toNat)) != 0) from rfl)
                have hwas : (progK st.B (a + k * 4) l4 st.mask j)[a + k * 4 + j]'(by rw [hpl]; omega) = st.B.getD (a + k * 4 + j) 0 := by
                  have h0 := progK_later st.B (a + k * 4) l4 st.mask j j (Nat.le_refl _)
                  rw [List.getD_eq_getElem?_getD, List.getElem?_eq_getElem (by rw [hpl]; omega)] at h0
                  exact h0
                rw [hwas] at cb
                have hdr := drop_whole (st.B.getD (a + k * 4 + j) 0) (l4.getD j 0) j hlt4
                rw [← Hmk.out] at hdr
                have hdl := UInt8.toNat_lt (dropByte (st.B.getD (a + k * 4 + j) 0) (l4.getD j 0) (st.mask / 2 ^ (8 * j)))
                have hwl := UInt8.toNat_lt (st.B.getD (a + k * 4 + j) 0)
                have hbl := UInt8.toNat_lt (l4.getD j 0)
                have Hbk := hide (show ∀ hh : k * 4 + j < lb.length, lb[k * 4 + j]'hh = l4.getD j 0 from fun _ => hbk)
                generalize hDD : dropByte (st.B.getD (a + k * 4 + j) 0) (l4.getD j 0) (st.mask / 2 ^ (8 * j)) = D at *
                clear hDD hwas hw2 hw' hbk hkl4
                generalize rbadK st.B (a + k * 4) l4 j = bad at *
                generalize st.B.getD (a + k * 4 + j) 0 = was at *
                generalize l4.getD j 0 = want at *
                have e1 : bits .andNot .u8 ((was.toNat : Nat) : Int) ((want.toNat : Nat) : Int) = ((was.toNat &&& (255 - want.toNat) : Nat) : Int) := u8_andNot_nat _ _ hwl hbl
                have hd0 : was.toNat &&& (255 - want.toNat) ≤ was.toNat := Nat.and_le_left
                have e3 : bits .andNot .u8 ((want.toNat : Nat) : Int) ((was.toNat : Nat) : Int) = ((want.toNat &&& (255 - was.toNat) : Nat) : Int) := u8_andNot_nat _ _ hbl hwl
                generalize was.toNat &&& (255 - want.toNat) = d0 at *
                generalize want.toNat &&& (255 - was.toNat) = r0 at *
                have e5 : ((was.toNat : Nat) : Int) - (d0 : Int) = ((D.toNat : Nat) : Int) := by omega
                clear hdr
                have hrn : (r0 != 0) = ((r0 : Int) != 0) := by
                  by_cases c : r0 = 0
                  · subst c; rfl
                  · rw [bne_iff_ne.2 c, bne_iff_ne.2 (by omega)]
                have HC : bad = true ∨ (bad = false ∧ ((r0 : Int) != 0) = true) ∨ (bad = false ∧ ((r0 : Int) != 0) = false) := by
                  generalize ((r0 : Int) != 0) = y
                  cases bad <;> cases y <;> simp
                have HRN := hide hrn
                have hdi : (d0 : Int) ≤ (was.toNat : Int) := by omega
                clear hrn
                have hw3 : (own 5 1 (.slice (some ⟨g, 0, Option.none⟩) st.B.length cap) st.B.length (vbs (progK st.B (a + k * 4) l4 st.mask j)) * (blk p (.cells (rfCells (.slice (some ⟨g, 0, Option.none⟩) st.B.length cap) vw st.step) 44 (0, 0)) * (ownInts vw st.worn * F))).on wr := by
                  rw [SP.mul_left_comm]; exact Hw.out
                have h2 := own_store hw3 (j := a + k * 4 + j) (by omega) (vb D)
                rw [vbs_set, ← HK.out, SP.mul_left_comm] at h2
                have hl2 := Hrd.out _ h2.right.right.right
                rw [← Hnl.out] at hl2
                obtain ⟨_, _, he2, _, _, hl2, _⟩ := hl2
                simp only [Value.slice.injEq] at he2
                obtain ⟨rfl, _, rfl⟩ := he2
                have cv2 := Lay.cell hl2 (k * 4 + j) (vbs_get lb (k * 4 + j) (by rw [← Hnl.out]; omega))
                rw [Hbk.out (by rw [← Hnl.out]; omega)] at cv2
                have H2 := hide h2
                clear hw3 h2 hl2 hl
                rcases HC with rfl | ⟨rfl, hr1⟩ | ⟨rfl, hr1⟩
                all_goals
                  go_wp2_with fail
                  refine ⟨⟨j + 1, by omega, by simp, ?_, H2.out, Hstr.out.setCell _ _⟩, by simp [intOf]; omega⟩
                  rw [HE.out, HRN.out]
                  simp_all
              · have h4 : j = 4 := by omega
                subst h4
                have hfin := Hw.out
                have hfin2 : (RFlash p (st.word (a + k * 4) l4) * F).on wr := by
                  refine RFlash.ofParts (vb := .slice (some ⟨g, 0, Option.none⟩) st.B.length cap) (vw := vw) ?_
                  show (_ * (own 5 1 _ (progK st.B (a + k * 4) l4 st.mask 4).length (vbs (progK st.B (a + k * 4) l4 st.mask 4)) * (ownInts vw st.step.worn * F))).on wr
                  rw [progK_length, FlS.step_worn]
                  exact hfin
                have HF := hide hfin2
                have hbe : badK st.B (a + k * 4) l4 st.mask 4 = rbadK st.B (a + k * 4) l4 4 := by rw [Hmk.out]; exact rbadK_eq _ _ _ 4 (Nat.le_refl _)
                clear hfin hfin2 hw'
                rw [show ((4 : Nat) : Int) = 4 from rfl]
                cases hb : rbadK st.B (a + k * 4) l4 4 with
                | true =>
                  have HE6 := hide (show st.wordErr (a + k * 4) l4 = 6 by unfold FlS.wordErr; rw [if_neg (by simp [Hso.out]), hbe, hb]; rfl)
                  clear hb hbe
                  go_wp2_with fail
                  go_ret
                  rw [Heq.out, Hstep.out, if_neg (by rw [HE6.out]; decide)]
                  exact ⟨by rw [HE6.out]; rfl, HF.out, Hstr.out⟩
                | false =>
                  have HE0 := hide (show st.wordErr (a + k * 4) l4 = 0 by unfold FlS.wordErr; rw [if_neg (by simp [Hso.out]), hbe, hb]; rfl)
                  have Hwo := hide (show (st.word (a + k * 4) l4).off = false from Hso.out)
                  clear hb hbe
                  go_wp2_with fail
                  go_roundw
                  case rel => exact ⟨k + 1, st.word (a + k * 4) l4, by omega, congrArg (Value.int _) (by omega), Hokw.out, Hwo.out, by rw [Hlnw.out, hlt2], by have := Hstw.out; omega, by rw [Heq.out, Hstep.out, if_pos HE0.out], HF.out, Hstr.out⟩
                  case measure => simp [intOf]; omega
        · have hkw : words - k = 0 := by omega
          have hk4 : (k : Int) * 4 = nl := by omega
          rw [hkw] at heq
          have Heq := hide heq
          have Hw2 := hide hw2
          have Hstr2 := hide hstr2
          clear heq hw2 hstr2 hkw
          go_wp2_with fail
          go_ret
          rw [Heq.out]
          exact ⟨rfl, Hw2.out, Hstr2.out⟩
theorem rprogram_off (p : Nat) (s : FlS) (F : SP) (w : World) (h : (RFlash p s * F).on w) (hoff : s.off = true) (a : Nat) (v : Value) :
    Calls Try.prog 50 #[fptr p, .int .i64 a, v] w fun e w' => e = .returned (.int .i64 5) ∧ w = w' := by
  obtain ⟨vb, vw, h⟩ := RFlash.open h
  have c6 := cell_of_row w p 6 _ _ _ (on_blk_mul h)
  simp only [rfCells] at c6
  rw [hoff] at c6
  clear h hoff
  go_enter Try.func50, Try.ntmps50
  go_wp2_with fail
  go_ret
  exact ⟨rfl, rfl⟩
set_option maxRecDepth 100000 in
set_option maxHeartbeats 4000000 in
theorem rprogram_out (p : Nat) (s : FlS) (F : SP) (w : World) (h : (RFlash p s * F).on w) (ok : s.Ok) (hoff : s.off = false) (a : Nat) (ha4 : a % 4 = 0) (v : Value) (lb : List UInt8) (hlb : lb.length % 4 = 0) (ha : a ≤ 1000000) (hl : lb.length ≤ 1000000) (hin : ¬ a + lb.length ≤ s.B.length) (hv : IsBytes w v lb) :
    Calls Try.prog 50 #[fptr p, .int .i64 a, v] w fun e w' => e = .returned (.int .i64 3) ∧ w = w' := by
  obtain ⟨av, cv, rfl, hcv, hmv, hlv, hnv⟩ := hv
  have hpg := ok.pages
  have hmo := ok.most
  have hB : s.B.length ≤ 16384 := by omega
  obtain ⟨g0, cap0, vw0, hc01, hc02, h2⟩ := RFlash.parts h ok
  have c0 := cell_of_row w p 0 _ _ _ (on_blk_mul h2)
  have c6 := cell_of_row w p 6 _ _ _ (on_blk_mul h2)
  simp only [rfCells] at c0 c6
  rw [hoff] at c6
  unfold maxLen at hmv hc02
  clear hpg hmo h2 h hoff hlv hnv ok
  have e1 : ((a : Int)).tmod 4 = 0 := by rw [Int.tmod_eq_emod_of_nonneg (by omega)]; omega
  have e2 : ((lb.length : Nat) : Int).tmod 4 = 0 := by rw [Int.tmod_eq_emod_of_nonneg (by omega)]; omega
  generalize lb.length = n at *
  clear ha4 hlb
  have z1 : decide ((a : Int) < 0) = false := decide_eq_false (by omega)
  go_enter Try.func50, Try.ntmps50
  by_cases hc : s.B.length < a
  · have hcI : (s.B.length : Int) < a := by omega
    clear hin
    go_wp2_with fail
    go_ret
    exact ⟨rfl, rfl⟩
  · have hcI : (s.B.length : Int) - a < n := by omega
    have hcJ : ¬ (s.B.length : Int) < a := by omega
    clear hin
    go_wp2_with fail
    go_ret
    exact ⟨rfl, rfl⟩
/-- a program, whatever comes of it -/
theorem rprog_any (p : Nat) (s : FlS) (F : SP) (w : World) (h : (RFlash p s * F).on w) (n : Nat) (fit : s.Fit n) (hn : n ≤ 1099511000000) (a : Nat) (v : Value) (lb : List UInt8) (ha4 : a % 4 = 0) (hlb : lb.length % 4 = 0) (ha : a ≤ 1000000) (hl : lb.length ≤ 1000000) (hrd : ∀ w, F.on w → IsBytes w v lb) :
    Calls Try.prog 50 #[fptr p, .int .i64 a, v] w fun e w' => e = .returned (.int .i64 ((s.prog a lb).2 : Int)) ∧ (RFlash p (s.prog a lb).1 * F).on w' ∧ Str w w' := by
  unfold FlS.prog
  by_cases ho : s.off = true
  · rw [if_pos ho]
    refine (rprogram_off p s F w h ho a v).mono ?_
    rintro e w' ⟨rfl, rfl⟩
    exact ⟨rfl, h, Str.refl _⟩
  · rw [if_neg ho]
    have ho' : s.off = false := by simpa using ho
    by_cases hin : a + lb.length ≤ s.B.length
    · rw [if_pos hin]
      exact rprogram_on p s F w h fit.ok (by have := fit.steps; omega) ho' fit.free a v lb (lb.length / 4) ha4 (by omega) hin hrd
    · rw [if_neg hin]
      refine (rprogram_out p s F w h fit.ok ho' a ha4 v lb hlb ha hl hin (hrd w h.right)).mono ?_
      rintro e w' ⟨rfl, rfl⟩
      exact ⟨rfl, h, Str.refl _⟩
end Go.Proofs.Ytjmgnfpcieofkaa

/- The document's flash: a new one. -/
namespace Go.Proofs.Ytjmgnfpcieofkaa
open Go.ChangeShapes Go.WideShapes Go.ChangeAt Go.RowKit
set_option linter.unusedVariables false
set_option linter.unusedSimpArgs false

def rnewQ (k : Nat) (v : Value) : SP := ex fun p : Nat => pure (v = .tuple #[fptr p, .int .i64 0]) * RFlash p (FlS.new k)
theorem rnewQ.out {k : Nat} {v : Value} {F : SP} {w : World} (h : (rnewQ k v * F).on w) : ∃ p, v = .tuple #[fptr p, .int .i64 0] ∧ (RFlash p (FlS.new k) * F).on w := by
  obtain ⟨p, h⟩ := on_ex_mul.1 h
  rw [SP.mul_assoc] at h
  exact ⟨p, on_pure_mul.1 h⟩
/-- behind j bytes -/
def FlS.part (k j : Nat) : FlS := { FlS.new k with B := List.replicate j 255 }
abbrev rzero (vw : Value) : Array Value := #[.slice Option.none 0 0, .int .i64 0, .int .i64 0, .bool false, .int .i64 0, .int .u32 0, .bool false, vw, .int .i64 0]
theorem rf_info : (Try.prog.info? 44).map (·.size) = some 9 := by kernel_rfl
theorem rnew_world (w : World) (k : Nat) (h2 : k ≤ 64) :
    (RFlash (w.heap.size + 1) (FlS.part k 0) * all w).on ((w.alloc (Obj.cells (Array.replicate k (Value.int IntKind.i64 0)) 3)).alloc (Obj.cells (rzero (.slice (some ⟨w.heap.size, 0, Option.none⟩) k k)) 44)) ∧
    Str w ((w.alloc (Obj.cells (Array.replicate k (Value.int IntKind.i64 0)) 3)).alloc (Obj.cells (rzero (.slice (some ⟨w.heap.size, 0, Option.none⟩) k k)) 44)) := by
  refine ⟨?_, ((Str.refl w).alloc _).alloc _⟩
  have h0 := own_new (F := all w) 3 1 k (List.replicate k (.int .i64 0)) (on_all w) (by simp) (by unfold maxLen; omega)
  have h3 := h0.alloc (Obj.cells (rzero (.slice (some ⟨w.heap.size, 0, Option.none⟩) k k)) 44)
  simp only [World.size_alloc, List.toArray_replicate] at h3
  have h4 : (ownBy (.slice Option.none 0 0) [] * (blk (w.heap.size + 1) (.cells (rzero (.slice (some ⟨w.heap.size, 0, Option.none⟩) k k)) 44 (0, 0)) * (own 3 1 (.slice (some ⟨w.heap.size, 0, Option.none⟩) k k) k (List.replicate k (.int .i64 0)) * all w))).on _ := own_nil _ _ h3
  refine RFlash.shut (vb := .slice Option.none 0 0) (vw := .slice (some ⟨w.heap.size, 0, Option.none⟩) k k) ?_
  rw [SP.mul_assoc, SP.mul_left_comm]
  have e : (FlS.part k 0).worn = List.replicate k 0 := rfl
  unfold ownInts
  rw [e, List.map_replicate, List.length_replicate]
  exact h4
set_option maxRecDepth 100000 in
set_option maxHeartbeats 4000000 in
theorem rnew_any (k : Nat) (h1 : 1 ≤ k) (h2 : k ≤ 64) (w : World) :
    Calls Try.prog 10 #[.int .i64 k] w (Makes w (rnewQ k)) := by
  have hmk2 := run_make_row' (P := Try.prog) 42 3 (.int .i64 0) 8 Try.underlying42 infoInt rfl .i64 .i64 k (by omega) (by omega)
  have hu := Try.underlying33
  simp only [madeCells_one] at hmk2
  have HI := hide infoByte
  go_enter Try.func10, Try.ntmps10
  have H0 := hide (rnew_world w k h2).1
  have HS0 := hide (rnew_world w k h2).2
  unfold rzero at H0 HS0
  go_wp2_with fail
  generalize (w.alloc (Obj.cells (Array.replicate k (Value.int IntKind.i64 0)) 3)).alloc (Obj.cells #[.slice Option.none 0 0, .int .i64 0, .int .i64 0, .bool false, .int .i64 0, .int .u32 0, .bool false, .slice (some ⟨w.heap.size, 0, Option.none⟩) k k, .int .i64 0] 44) = W0 at *
  generalize w.heap.size + 1 = p at *
  clear hmk2
  go_loopw [5] (fun i wr => ∃ j : Nat, j ≤ 256 * k ∧ i = .int .i64 j ∧ (RFlash p (FlS.part k j) * all w).on wr ∧ Str w wr) (fun i _ => 256 * k - (intOf i).toNat)
  case atStart => exact ⟨0, by omega, rfl, H0.out, HS0.out⟩
  case round =>
    obtain ⟨j, hj, rfl, hw, hstr⟩ := hrel
    by_cases hlt : j < 256 * k
    · obtain ⟨vb', vw', h5⟩ := RFlash.open hw
      obtain ⟨lb, hlb⟩ : ∃ l, l = (FlS.part k j).B := ⟨_, rfl⟩
      rw [← hlb] at h5
      have Hlb := hide hlb
      have hll : lb.length ≤ 16384 := by rw [hlb]; show (List.replicate j (255 : UInt8)).length ≤ _; rw [List.length_replicate]; omega
      clear hlb
      have c0 := cell_of_row wr p 0 _ _ _ (on_blk_mul h5)
      have h6 := h5.alloc' (.cells #[.int .u8 255] 5)
      have hnw : IsBytes (wr.alloc (.cells #[.int .u8 255] 5)) (.slice (some ⟨wr.heap.size, 0, Option.none⟩) 1 1) [255] := IsBytes.new wr [255] (by simp [maxLen]) 5
      rw [SP.mul_assoc, SP.mul_left_comm] at h6
      obtain ⟨va, vc, rfl, _, _, _, _⟩ := own_value h6
      have c0' := cell_of_row (wr.alloc (.cells #[.int .u8 255] 5)) p 0 _ _ _ (on_blk_mul h6.right)
      simp only [rfCells] at c0 c0'
      have H6 := hide h6
      have Hnw := hide hnw
      have S6 := hide (hstr.alloc (.cells #[.int .u8 255] 5))
      clear h5 h6 hw hstr hnw H0 HS0
      go_wp2_with (at_builtin; go_loud (refine wpList_append_bytes (F := blk p (.cells (rfCells (.slice va lb.length vc) vw' (FlS.part k j)) 44 (0, 0)) * (ownInts vw' (FlS.part k j).worn * all w)) rfl _ _ 33 rfl 5 hu HI.out _ lb [255] rfl H6.out _ rfl Hnw.out (by simp; omega) ?_); intro v2 w2 ho2 hs2; have c02 := cell_of_row w2 p 0 _ _ _ (on_blk_mul ho2.right); have fr2 := frozen_of_row w2 p 0 _ _ (on_blk_mul ho2.right); simp only [rfCells] at c02; have Ho2 := hide ho2; have Hs2 := hide hs2; obtain ⟨va2, vc2, rfl, _, _, _, _⟩ := own_value ho2; clear ho2 hs2)
      refine ⟨⟨j + 1, by omega, by simp, RFlash.shut (vb := .slice va2 (lb.length + 1) vc2) (vw := vw') ?_, (S6.out.trans Hs2.out).setCell _ _⟩, by simp [intOf]; omega⟩
      have h7 := Ho2.out
      have hl1 : (lb ++ [255]).length = lb.length + 1 := by simp
      rw [SP.mul_left_comm, hl1] at h7
      have h8 := h7.setCell (i := 0) (.slice va2 (lb.length + 1) vc2)
      have e : (FlS.part k (j + 1)).B = lb ++ [255] := by rw [Hlb.out]; show List.replicate (j + 1) (255 : UInt8) = List.replicate j 255 ++ [255]; rw [List.replicate_succ']
      rw [SP.mul_assoc]
      unfold ownBy
      rw [e, hl1]
      exact h8
    · have hj2 : j = k * 256 := by omega
      have Hw := hide hw
      have Hs := hide hstr
      clear hw hstr H0 HS0
      go_wp2_with fail
      go_ret2
      refine ⟨_, rfl, on_ex_mul.2 ⟨p, ?_⟩, Hs.out⟩
      rw [SP.mul_assoc]
      refine on_pure_mul.2 ⟨rfl, ?_⟩
      have h9 := Hw.out
      have e : FlS.part k j = FlS.new k := by rw [hj2]; rfl
      rw [e] at h9
      exact h9
end Go.Proofs.Ytjmgnfpcieofkaa
