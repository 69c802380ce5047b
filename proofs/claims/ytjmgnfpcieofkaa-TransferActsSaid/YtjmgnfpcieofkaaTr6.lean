/- transfer: Put. -/
import Derived.Test.YtjmgnfpcieofkaaTr5
namespace Go.Proofs.Ytjmgnfpcieofkaa
open Go.ChangeShapes Go.WideShapes Go.ChangeAt Go.RowKit
set_option linter.unusedVariables false
set_option linter.unusedSimpArgs false

/-- a piece is kept: the flash, the record, and the error -/
def kPut (s : FlS) (R : RecS) (b : List UInt8) : FlS × RecS × Nat :=
  if R.phase ≠ 1 then (s, R, 16)
  else if R.done % 256 ≠ 0 ∨ 4096 < R.done + b.length then (s, R, 12)
  else if (s.clr 18 (R.done / 256) ((R.done + b.length + 255) / 256 - R.done / 256)).2 ≠ 0 then ((s.clr 18 (R.done / 256) ((R.done + b.length + 255) / 256 - R.done / 256)).1, R, (s.clr 18 (R.done / 256) ((R.done + b.length + 255) / 256 - R.done / 256)).2)
  else if ((s.clr 18 (R.done / 256) ((R.done + b.length + 255) / 256 - R.done / 256)).1.prog (4608 + R.done) (padW b)).2 ≠ 0 then (((s.clr 18 (R.done / 256) ((R.done + b.length + 255) / 256 - R.done / 256)).1.prog (4608 + R.done) (padW b)).1, R, ((s.clr 18 (R.done / 256) ((R.done + b.length + 255) / 256 - R.done / 256)).1.prog (4608 + R.done) (padW b)).2)
  else kRem ((s.clr 18 (R.done / 256) ((R.done + b.length + 255) / 256 - R.done / 256)).1.prog (4608 + R.done) (padW b)).1 R 1 (R.done + b.length) R.init
theorem padW_len (b : List UInt8) : (padW b).length = b.length + (4 - b.length % 4) % 4 := by simp [padW]

set_option maxRecDepth 100000 in
set_option maxHeartbeats 32000000 in
theorem kput_any (q p : Nat) (R : RecS) (s : FlS) (F : SP) (n : Nat) (fit : s.Fit n) (hn : n ≤ 1099400000000) (hw34 : 34 ≤ s.worn.length) (hR : R.Ok) (hdn : R.done ≤ 4096) (vi : Value) (b : List UInt8)
    (hrd : ∀ W, F.on W → IsBytes W vi b) (w : World) (h : (Kp q p R * (Flash p s * F)).on w) :
    Calls Try.prog 25 #[.pointer (some ⟨q, 0, Option.none⟩), vi] w (KTurn q p (kPut s R b) F w) := by
  have hub := Try.underlying113
  have hur := Try.underlying35
  have huk := Try.underlying115
  obtain ⟨av, cv, rfl, hcv, hmv, _, _⟩ := hrd w h.right.right
  unfold maxLen at hmv
  have hpu : kPut s R b = if R.phase ≠ 1 then (s, R, 16) else if R.done % 256 ≠ 0 ∨ 4096 < R.done + b.length then (s, R, 12)
    else if (s.clr 18 (R.done / 256) ((R.done + b.length + 255) / 256 - R.done / 256)).2 ≠ 0 then ((s.clr 18 (R.done / 256) ((R.done + b.length + 255) / 256 - R.done / 256)).1, R, (s.clr 18 (R.done / 256) ((R.done + b.length + 255) / 256 - R.done / 256)).2)
    else if ((s.clr 18 (R.done / 256) ((R.done + b.length + 255) / 256 - R.done / 256)).1.prog (4608 + R.done) (padW b)).2 ≠ 0 then (((s.clr 18 (R.done / 256) ((R.done + b.length + 255) / 256 - R.done / 256)).1.prog (4608 + R.done) (padW b)).1, R, ((s.clr 18 (R.done / 256) ((R.done + b.length + 255) / 256 - R.done / 256)).1.prog (4608 + R.done) (padW b)).2)
    else kRem ((s.clr 18 (R.done / 256) ((R.done + b.length + 255) / 256 - R.done / 256)).1.prog (4608 + R.done) (padW b)).1 R 1 (R.done + b.length) R.init := rfl
  have hkp := h
  obtain ⟨iv, h⟩ := Kp.open h
  obtain ⟨ai, ci, rfl, _, _, _, _⟩ := own_value h.right
  have hq := on_blk_mul h
  have c6 : w.cell? ⟨q, 6, Option.none⟩ = some (vb R.phase) := cell_of_row w q 6 _ _ _ hq
  have c7 : w.cell? ⟨q, 7, Option.none⟩ = some (u32v R.done) := cell_of_row w q 7 _ _ _ hq
  generalize hPX : kPut s R b = PX at *
  have HPX := hide hPX
  have Hkp := hide hkp
  clear hPX hkp
  by_cases hph : R.phase = 1
  case neg =>
    rw [if_pos hph] at hpu
    have Hpu := hide hpu
    have e1 : (((R.phase.toNat : Nat) : Int) != 1) = true := by
      have : R.phase.toNat ≠ 1 := fun h => hph (UInt8.toNat_inj.1 h)
      simp; omega
    clear hpu hph h hq hrd fit hR
    go_enter Try.func25, Try.ntmps25
    go_wp2_with fail
    go_ret
    unfold KTurn
    rw [Hpu.out]
    exact ⟨rfl, Hkp.out, Str.refl _⟩
  case pos =>
    rw [if_neg (by simp [hph])] at hpu
    have e1 : (((R.phase.toNat : Nat) : Int) != 1) = false := by rw [hph]; rfl
    have hmod : ((R.done : Int)).tmod 256 = ((R.done % 256 : Nat) : Int) := by rw [Int.tmod_eq_emod_of_nonneg (by omega)]; omega
    clear hph
    by_cases hm : R.done % 256 = 0
    case neg =>
      rw [if_pos (.inl hm)] at hpu
      have Hpu := hide hpu
      have e2 : ((R.done : Int) % 256 != 0) = true := by simp only [bne_iff_ne, ne_eq]; omega
      clear hpu hm hmod h hq hrd fit hR
      go_enter Try.func25, Try.ntmps25
      go_wp2_with fail
      go_ret
      unfold KTurn
      rw [Hpu.out]
      exact ⟨rfl, Hkp.out, Str.refl _⟩
    case pos =>
      have e2 : ((R.done : Int) % 256 != 0) = false := by simp only [bne_eq_false_iff_eq]; omega
      clear hmod
      by_cases hl : 4096 < R.done + b.length
      case pos =>
        rw [if_pos (.inr hl)] at hpu
        have Hpu := hide hpu
        have e3 : (4096 : Int) - (R.done : Int) < ((b.length : Nat) : Int) := by omega
        clear hpu hm hl h hq hrd fit hR
        go_enter Try.func25, Try.ntmps25
        go_wp2_with fail
        go_ret
        unfold KTurn
        rw [Hpu.out]
        exact ⟨rfl, Hkp.out, Str.refl _⟩
      case neg =>
        rw [if_neg (by omega)] at hpu
        have e3 : ¬ ((4096 : Int) - (R.done : Int) < ((b.length : Nat) : Int)) := by omega
        have hlb : b.length ≤ 4096 := by omega
        have ha0 : R.done / 256 ≤ (R.done + b.length + 255) / 256 := by omega
        have ha1 : (R.done + b.length + 255) / 256 ≤ 16 := by omega
        have hq1 : ((R.done : Int)).tdiv 256 = ((R.done / 256 : Nat) : Int) := by rw [Int.tdiv_eq_ediv_of_nonneg (by omega)]; omega
        have hq2 : ((R.done : Int) + ((b.length : Nat) : Int) + 256 - 1).tdiv 256 = (((R.done + b.length + 255) / 256 : Nat) : Int) := by rw [Int.tdiv_eq_ediv_of_nonneg (by omega)]; omega
        have hC := clear_any p s _ w (show (Flash p s * (blk q (.cells (kpCells p R (.slice ai R.init.length ci)) 115 (0, 0)) * (ownR (.slice ai R.init.length ci) R.init * F))).on w from by
          rw [SP.mul_left_comm, SP.mul_left_comm (Flash p s)]; exact h) n fit (by omega) 18 (R.done / 256) ((R.done + b.length + 255) / 256) (by omega) ha0 ha1
        have fit2 := clr_fit (first := 18) ((R.done + b.length + 255) / 256 - R.done / 256) (R.done / 256) _ _ fit
        have worn2 := clr_wornlen (first := 18) ((R.done + b.length + 255) / 256 - R.done / 256) (R.done / 256) s
        have hbank := kp_bank p R (.slice ai R.init.length ci) w q _ hq
        have Hib := hide (bk_info p)
        obtain ⟨⟨s2, e5⟩, hY⟩ : ∃ x, x = s.clr 18 (R.done / 256) ((R.done + b.length + 255) / 256 - R.done / 256) := ⟨_, rfl⟩
        rw [← hY] at hC fit2 worn2 hpu
        simp only at fit2 worn2 hpu
        have hpad := padW_len b
        rw [show ((R.done / 256 : Nat) : Int) = (R.done : Int) / 256 from by omega, show (((R.done + b.length + 255) / 256 : Nat) : Int) = ((R.done : Int) + ((b.length : Nat) : Int) + 255) / 256 from by omega] at hC
        have HC := hide (show Calls Try.prog 58 #[.agg #[fptr p, .int .i64 18], .int .i64 ((R.done : Int) / 256), .int .i64 (((R.done : Int) + ((b.length : Nat) : Int) + 255) / 256)] w _ from hC)
        have Hrd := hide hrd
        have Hm := hide hm
        have Hl := hide hl
        have HR := hide hR
        have Hfit2 := hide (fit2.mono (show n + ((R.done + b.length + 255) / 256 - R.done / 256) ≤ n + 16 by omega))
        have hw2 : 18 + 16 ≤ s2.worn.length := by omega
        clear hC hY fit2 worn2 h hq hrd fit hR hm hl hw34 ha0 ha1
        by_cases h5 : e5 = 0
        case neg =>
          rw [if_pos (by simpa using h5)] at hpu
          have Hpu := hide hpu
          have en : (((e5 : Nat) : Int) != 0) = true := by simp only [bne_iff_ne, ne_eq]; omega
          clear hpu h5
          go_enter Try.func25, Try.ntmps25
          go_wp2_with (refine wpList_load_part rfl _ _ rfl q 0 rfl (#[fptr p, .int .i64 18]) _ hbank hub rfl Hib.out ?_; clear hbank)
          refine HC.out.mono ?_
          clear HC
          rintro e w2 ⟨rfl, hk, hs⟩
          have Hk2 := hide (show (Kp q p R * (Flash p s2 * F)).on w2 by
            rw [SP.mul_left_comm, SP.mul_left_comm (Flash p _)] at hk
            exact Kp.shut hk)
          have Hs2 := hide hs
          clear hk hs
          go_wp2_with fail
          go_ret
          unfold KTurn
          rw [Hpu.out]
          exact ⟨rfl, Hk2.out, Hs2.out⟩
        case pos =>
          rw [if_neg (by simp [h5])] at hpu
          subst h5
          obtain ⟨⟨s3, e6⟩, hZ⟩ : ∃ x, x = s2.prog (4608 + R.done) (padW b) := ⟨_, rfl⟩
          rw [← hZ] at hpu
          simp only at hpu
          have HZ := hide hZ
          have Hfit3 : Hid (s3.Fit (n + 16 + (padW b).length / 4)) := hide (by have := Hfit2.out.prog (4608 + R.done) (padW b); rw [← hZ] at this; exact this)
          have Hpad := hide hpad
          clear hZ hpad
          have HW := hide (fun (X : World) (hX : (Flash p s2 * (blk q (.cells (kpCells p R (.slice ai R.init.length ci)) 115 (0, 0)) * (ownR (.slice ai R.init.length ci) R.init * F))).on X) => bwrite_all p s2 _ (X.alloc (.cells #[.slice av b.length cv] 33)) (hX.alloc' _) (n + 16) Hfit2.out (by omega) 18 R.done hw2 (by have := Hm.out; omega) (.slice (some ⟨X.heap.size, 0, Option.none⟩) 1 1) [b] (IsRows.one (Hrd.out X hX.right.right.right) _) (by have h1 := Hm.out; have h2 := Hl.out; rw [show ([b] : List (List UInt8)).flatten = b by simp, Hpad.out]; omega))
          simp only [show ([b] : List (List UInt8)).flatten = b by simp, show 18 * 256 + R.done = 4608 + R.done from rfl, ← HZ.out] at HW
          have hE2 : ((R.done + b.length : Nat) : Int) = (R.done : Int) + ((b.length : Nat) : Int) := by omega
          by_cases h6 : e6 = 0
          case neg =>
            rw [if_pos (by simpa using h6)] at hpu
            have Hpu := hide hpu
            have en : (((e6 : Nat) : Int) != 0) = true := by simp only [bne_iff_ne, ne_eq]; omega
            clear hpu h6 hE2
            go_enter Try.func25, Try.ntmps25
            go_wp2_with (refine wpList_load_part rfl _ _ rfl q 0 rfl (#[fptr p, .int .i64 18]) _ hbank hub rfl Hib.out ?_; clear hbank)
            refine HC.out.mono ?_
            clear HC
            rintro e w2 ⟨rfl, hk, hs⟩
            have hk2 := hk
            rw [SP.mul_left_comm, SP.mul_left_comm (Flash p _)] at hk2
            have hbank := kp_bank p R (.slice ai R.init.length ci) w2 q _ (on_blk_mul hk2)
            have HW2 := hide (HW.out w2 hk)
            have Hs2 := hide hs
            rw [show ((0 : Nat) : Int) = 0 from rfl]
            clear hk hs hk2 HW
            go_wp2_with (refine wpList_load_part rfl _ _ rfl q 0 rfl (#[fptr p, .int .i64 18]) _ hbank hub rfl Hib.out ?_; clear hbank)
            refine HW2.out.mono ?_
            clear HW2
            rintro e w4 ⟨rfl, hk, hs⟩
            have Hk3 := hide (show (blk q (.cells (kpCells p R (.slice ai R.init.length ci)) 115 (0, 0)) * (ownR (.slice ai R.init.length ci) R.init * (Flash p s3 * F))).on w4 by
              rw [SP.mul_left_comm, SP.mul_left_comm (Flash p _)] at hk
              exact hk)
            have Hs3 := hide ((Hs2.out.alloc _).trans hs)
            clear hk hs
            go_wp2_with fail
            go_ret
            unfold KTurn
            rw [Hpu.out]
            exact ⟨rfl, Kp.shut Hk3.out, Hs3.out⟩
          case pos =>
            rw [if_neg (by simp [h6])] at hpu
            subst h6
            have Hpu := hide hpu
            have hpl : (padW b).length / 4 ≤ 1024 := by have h1 := Hm.out; have h2 := Hl.out; rw [Hpad.out]; omega
            clear hpu
            go_enter Try.func25, Try.ntmps25
            go_wp2_with (refine wpList_load_part rfl _ _ rfl q 0 rfl (#[fptr p, .int .i64 18]) _ hbank hub rfl Hib.out ?_; clear hbank)
            refine HC.out.mono ?_
            clear HC
            rintro e w2 ⟨rfl, hk, hs⟩
            have hk2 := hk
            rw [SP.mul_left_comm, SP.mul_left_comm (Flash p _)] at hk2
            have hbank := kp_bank p R (.slice ai R.init.length ci) w2 q _ (on_blk_mul hk2)
            have HW2 := hide (HW.out w2 hk)
            have Hs2 := hide hs
            rw [show ((0 : Nat) : Int) = 0 from rfl]
            clear hk hs hk2 HW
            go_wp2_with (refine wpList_load_part rfl _ _ rfl q 0 rfl (#[fptr p, .int .i64 18]) _ hbank hub rfl Hib.out ?_; clear hbank)
            refine HW2.out.mono ?_
            clear HW2
            rintro e w4 ⟨rfl, hk, hs⟩
            have Hk3 := hide (show (blk q (.cells (kpCells p R (.slice ai R.init.length ci)) 115 (0, 0)) * (ownR (.slice ai R.init.length ci) R.init * (Flash p s3 * F))).on w4 by
              rw [SP.mul_left_comm, SP.mul_left_comm (Flash p _)] at hk
              exact hk)
            have Hs3 := hide ((Hs2.out.alloc _).trans hs)
            clear hk hs
            have c8 : w4.cell? ⟨q, 8, Option.none⟩ = some (.slice ai R.init.length ci) := cell_of_row w4 q 8 _ _ _ (on_blk_mul Hk3.out)
            have hRm := remember_any q p R (.slice ai R.init.length ci) s3 F _ Hfit3.out (by omega) HR.out 1 (R.done + b.length) (by omega) (.slice ai R.init.length ci) R.init HR.out.init (fun W hW => own_bytes hW) w4 Hk3.out
            rw [hE2] at hRm
            have HRm := hide (show Calls Try.prog 57 #[.pointer (some ⟨q, 0, Option.none⟩), .int .u8 1, .int .i64 ((R.done : Int) + ((b.length : Nat) : Int)), .slice ai R.init.length ci] w4 _ from hRm)
            rw [show ((0 : Nat) : Int) = 0 from rfl]
            clear hRm hE2 hpl
            go_wp2_with fail
            refine HRm.out.mono ?_
            clear HRm
            rintro e w5 ⟨rfl, ⟨iv', hk⟩, hs⟩
            have Hk5 := hide (Kp.shut hk)
            have Hs5 := hide (Hs3.out.trans hs)
            clear hk hs c8
            go_wp2_with fail
            go_ret
            unfold KTurn
            rw [Hpu.out]
            exact ⟨rfl, Hk5.out, Hs5.out⟩
end Go.Proofs.Ytjmgnfpcieofkaa
