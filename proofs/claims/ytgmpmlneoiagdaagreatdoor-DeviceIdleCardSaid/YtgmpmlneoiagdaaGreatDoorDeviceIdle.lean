/- The law DeviceIdle: a device that is asked nothing runs the image that is there. -/
import Derived.Test.YtgmpmlneoiagdaaGreatDoorGDvJ
import Derived.Test.YtgmpmlneoiagdaaGreatDoorGDvD
import Derived.Test.YtgmpmlneoiagdaaGreatDoorGSlip
import Derived.Test.YtgmpmlneoiagdaaGreatDoorGCrc
import Derived.Test.YtgmpmlneoiagdaaGreatDoorGBase2
import Derived.Test.YtgmpmlneoiagdaaGreatDoorGFl
import Derived.Test.YtgmpmlneoiagdaaGreatDoorCards
import Derived.Test.YtgmpmlneoiagdaaGreatDoorTie
import Derived.Deep.DeepHandedRow
import Derived.Lib.LaidTab
namespace Go.Proofs.YtgmpmlneoiagdaaGreatDoor
open Go.ChangeShapes Go.WideShapes Go.ChangeAt Go.RowKit
set_option linter.unusedVariables false
set_option linter.unusedSimpArgs false

theorem lens_of_idle {W : World} (hL : laidMetH Tryz.prog Rows.deviceIdleRow.laid W) : Lens W := by
  have h0 : laidMetH Tryz.prog (Rows.deviceIdleRow.laid) W := hL
  rw [MakeChecks.laidMetH_plain _ _ _ (by kernel_rfl)] at h0
  have h1 := laidMet.filter (fun x => x.1 == "bosun/packet.lengths") h0
  refine lens_of_laid ?_
  rw [MakeChecks.laidMetH_plain _ _ _ (by kernel_rfl)]
  exact h1
theorem lens_allI {w : World} (hL : Lens w) : ∀ W, (all w).on W → Lens W := fun W hW i hi => by
  have h9 := hL i hi
  obtain ⟨x, hx, hy⟩ := hW
  have hb := World.block_lt_of_cell? _ _ h9
  rw [← h9]
  unfold World.cell?
  have : W.heap[1]? = w.heap[1]? := by
    have h1 := hy _ hb
    cases hq : w.heap[1]? with
    | none => rw [Array.getElem?_eq_getElem hb] at hq; cases hq
    | some o => exact hx _ _ (h1.trans hq)
  simp only [this]
theorem build_idle (n s : Nat) (w : World) : (Instr.build 31 [(2, Value.int .u32 (n : Nat)), (3, Value.int .u32 (s : Nat))].toArray).run Tryz.prog w = .ok (.agg (recCells ⟨0, 0, n, s, 0, 0, []⟩ nilV)) w := by kernel_rfl

set_option maxRecDepth 100000 in
set_option maxHeartbeats 16000000 in
theorem walk_DeviceIdle (w : World) (hL : laidMetH Tryz.prog Rows.deviceIdleRow.laid w) (v0 : Value) (l0 : List UInt8) (b0 : IsBytes w v0 l0) (a1 : Int) (l1 : 0 ≤ a1) (u1 : a1 ≤ 255) (v2 : Value) (l2 : List UInt8) (b2 : IsBytes w v2 l2) :
    Calls Tryz.prog 3 #[v0, .int .u8 a1, v2] w fun e w' => e = .returned (.bool true) ∧ Below w.heap.size w w' := by
  have hLens := hide (lens_of_idle hL)
  clear hL
  have hu8s := Tryz.underlying22
  have hu8 := Tryz.underlying5
  have hstr := Tryz.underlying9
  have HB0 := hide b0
  have HB2 := hide b2
  obtain ⟨a0, c0, rfl, hc0, hm0, hlay0, _⟩ := b0
  obtain ⟨a2, c2, rfl, hc2, hm2, hlay2, _⟩ := b2
  clear hlay0 hlay2
  unfold maxLen at hm0 hm2
  have hLv := lives21_any w hLens.out
  go_enter Tryz.func3, Tryz.ntmps3
  go_wp2_with fail
  refine hLv.mono ?_
  clear hLv
  rintro e w1 ⟨rfl, hb⟩
  have B1 := hide hb
  have L1 := hide (hLens.out.below hb)
  clear hb
  by_cases hbig : 1000 < l0.length ∨ 60 < l2.length
  · have hLv := lives21_any w1 L1.out
    by_cases hA : 1000 < l0.length
    · have hlI : decide ((1000 : Int) < (l0.length : Int)) = true := by simp; omega
      clear hbig
      go_wp2_with fail
      refine hLv.mono ?_
      clear hLv
      rintro e w2 ⟨rfl, hb⟩
      have B2 := B1.out.trans (hb.mono B1.out.size)
      go_wp2_with fail
      go_ret
      exact ⟨rfl, B2⟩
    · have hlI : decide ((1000 : Int) < (l0.length : Int)) = false := by simp; omega
      have hlJ : decide ((60 : Int) < (l2.length : Int)) = true := by simp; omega
      clear hbig
      go_wp2_with fail
      refine hLv.mono ?_
      clear hLv
      rintro e w2 ⟨rfl, hb⟩
      have B2 := B1.out.trans (hb.mono B1.out.size)
      go_wp2_with fail
      go_ret
      exact ⟨rfl, B2⟩
  have h1000 : l0.length ≤ 1000 := by omega
  have h60 : l2.length ≤ 60 := by omega
  clear hbig
  have hlI : decide ((1000 : Int) < (l0.length : Int)) = false := by simp; omega
  have hlJ : decide ((60 : Int) < (l2.length : Int)) = false := by simp; omega
  have hN := hide (new_any 34 (by decide) (by decide) w1)
  obtain ⟨n, hn⟩ : ∃ n : Nat, n = l0.length / 4 * 4 := ⟨_, rfl⟩
  have hnl : n ≤ l0.length := by omega
  go_wp2_with fail
  have e4 : (l0.length : Int) / 4 * 4 = (n : Int) := by omega
  simp only [e4]
  clear e4
  have hfl : (l0.take n).length = n := by rw [List.length_take]; omega
  have hI := idle_calm (l0.take n) (by rw [hfl]; omega) (by rw [hfl]; omega)
  obtain ⟨hp0, hlive1, t, hsv, hcalm, hlive, herr, hbytes, hsum, hdrop⟩ := hI
  have F : IdleF t (l0.take n) := ⟨hcalm, hlive.off, by cases t; have h1 := hlive.off; have h2 := hlive.armed; simp_all, herr, hbytes, hsum, hdrop, by omega⟩
  have hF := hide F
  have Hsv := hide hsv
  have hsm : crcUpd 0 (l0.take n) < 4294967296 := crcUpd_lt 0 _
  have hrOk : (idleR (l0.take n)).Ok := ⟨by show (0 : Nat) < _; omega, by show (0 : Nat) < _; omega, by show (l0.take n).length < _; omega, hsm, by show (0 : Nat) < _; omega, by show (0 : Nat) ≤ _; omega⟩
  have HrOk := hide hrOk
  have Hfit := hide ((FlS.Fit.new 34 (by decide) (by decide)).prog 512 (l0.take n))
  have Hfit0 := hide (FlS.Fit.new 34 (by decide) (by decide))
  have Hn4 := hide (show (l0.take n).length % 4 = 0 by omega)
  have hcell : idleR (l0.take n) = ⟨0, 0, n, crcUpd 0 (l0.take n), 0, 0, []⟩ := by unfold idleR zeroS; rw [hfl]
  have Hcell := hide hcell
  have Hfl := hide hfl
  have HBi := hide (fun W (hW : (all w).on W) => (HB0.out.all hW).upto hnl)
  have HLa := hide (lens_allI hLens.out)
  have Hn0 := hide hn
  clear hp0 hlive1 hsv hcalm hlive herr hbytes hsum hdrop F hrOk hcell hn
  refine hN.out.mono ?_
  clear hN
  rintro e w2 ⟨v, rfl, ho, hs1⟩
  obtain ⟨p, rfl, h2⟩ := newQ.out ho
  have h2 := on_all_to (show (Flash p (FlS.new 34) * all w1).on w2 from h2) ((on_all w).below B1.out)
  have S2 := hide ((Str.below B1.out).trans hs1)
  generalize FlS.new 34 = s0 at *
  have hP := hide (prog_any p s0 (all w) w2 h2 0 Hfit0.out (by decide) 512 (.slice a0 n c0) (l0.take n) (by decide) Hn4.out (by decide) (by rw [Hfl.out]; omega) HBi.out)
  have e5 : ((512 : Nat) : Int) = 512 := rfl
  rw [e5] at hP
  clear ho hs1 h2 e5
  generalize hs1e : (s0.prog 512 (l0.take n)) = X1 at *
  clear hs1e Hfit0
  have hnc : n ≤ c0 := by omega
  have hn1000 : n ≤ 1000 := by omega
  go_wp2_with fail
  refine hP.out.mono ?_
  clear hP
  rintro e w3 ⟨rfl, h3, hs3⟩
  have S3 := hide (S2.out.trans hs3)
  have hU := hide (refUpdate_any 0 (by decide) (.slice a0 n c0) (l0.take n) w3 (HBi.out w3 h3.right))
  rw [show ((0 : Nat) : Int) = 0 from rfl] at hU
  have hV := hide (save_any p X1.1 (all w) _ Hfit.out (by rw [Hfl.out]; omega) (idleR (l0.take n)) nilV HrOk.out (fun W _ => isB_nil W) w3 h3)
  rw [Hcell.out] at hV
  have hcs : crcUpd 0 (l0.take n) < 4294967296 := crcUpd_lt 0 _
  have hw32 : IntKind.u32.wrap (n : Int) = (n : Int) := by rw [IntKind.wrap_u32]; omega
  clear h3 hs3
  generalize hce : crcUpd 0 (l0.take n) = cs at *
  go_wp2_with fail
  refine hU.out.mono ?_
  clear hU
  rintro e _ ⟨rfl, rfl⟩
  go_wp2_with (refine wpList_build_list rfl 31 [(2, .tmp 47), (3, .tmp 51)] rfl [(2, .int .u32 (n : Nat)), (3, .int .u32 (cs : Nat))] (by simp [go_sem, hw32]) (recCells ⟨0, 0, n, cs, 0, 0, []⟩ nilV) (build_idle n cs _) ?_)
  refine hV.out.mono ?_
  clear hV
  rintro e w4 ⟨iv, rfl, ho, hs4⟩
  obtain ⟨ia, ic, rfl, _, _, _, _⟩ := own_value ho
  rw [← Hcell.out, Hsv.out] at ho ⊢
  have h4 := ho.right
  have S4 := hide (S3.out.trans hs4)
  have hD := dnew_calm p t _ w4 h4 hF.out.calm hF.out.pw true (fun e => by cases e) HLa.out
  rw [limC_lit] at hD
  have HD := hide hD
  clear ho hs4 h4 hD hce
  go_wp2_with fail
  refine HD.out.mono ?_
  clear HD
  rintro e w5 ⟨d, dp, m, q, rfl, h5, hs5⟩
  have S5 := hide (S4.out.trans hs5)
  have h5b : (blk d (.cells (dvV (dptr dp) (fptr p) 1 nilV (.pointer (some ⟨m, 0, Option.none⟩)) 0) 67 (0, 0)) * (Flash p t * (Dec dp ⟨[], 70, false, false⟩ * (blk m (.cells (mK q) 127 (0, 0)) * all w)))).on w5 := by
    rw [show ∀ A B C D E F9 : SP, A * (B * (C * (D * (E * F9)))) = (A * (E * (B * (C * F9)))) * D from fun A B C D E F9 => by ac_rfl] at h5
    exact h5.left
  have H5 := hide h5b
  clear h5 h5b hs5 S4
  go_wp2_with fail
  go_loopw [62] (fun i wr => ∃ k : Nat, k ≤ 49 ∧ i = .int .i64 k ∧ (blk d (.cells (dvV (dptr dp) (fptr p) 1 nilV (.pointer (some ⟨m, 0, Option.none⟩)) k) 67 (0, 0)) * (Flash p t * (Dec dp ⟨[], 70, false, false⟩ * (blk m (.cells (mK q) 127 (0, 0)) * all w)))).on wr ∧ Str w wr) (fun i _ => 49 - (intOf i).toNat)
  case atStart => exact ⟨0, by omega, rfl, H5.out, S5.out⟩
  case round =>
    clear H5 S5
    obtain ⟨k, hk, rfl, hw, hstr⟩ := hrel
    by_cases hlt : k < 49
    · have hkI : (k : Int) < 49 := by omega
      have hT := hide (tick_wait d p _ nilV _ k (by omega) t _ wr hw hF.out.off)
      have SR := hide hstr
      clear hw hstr
      go_wp2_with fail
      refine hT.out.mono ?_
      clear hT
      rintro e w6 ⟨⟨v, rfl⟩, h6, hs6⟩
      have H6 := hide h6
      have S6 := hide (SR.out.trans hs6)
      clear h6 hs6 SR
      go_wp2_with fail
      exact ⟨⟨k + 1, by omega, by simp, H6.out, S6.out⟩, by simp [intOf]; omega⟩
    · obtain rfl : k = 49 := by omega
      rw [show ((49 : Nat) : Int) = 49 from rfl]
      have hEn := hide (refEncode_any (.slice a2 l2.length c2) l2 wr (HB2.out.all hw.right.right.right.right) (by omega))
      have H6 := hide hw
      have S6 := hide hstr
      clear hw hstr
      go_wp2_with fail
      refine hEn.out.mono ?_
      clear hEn
      rintro e w7 ⟨vf, rfl, ho, hs7⟩
      have S7 := hide (S6.out.trans hs7)
      have h7 := on_all_to ho H6.out
      rw [show ∀ O A B C D E : SP, O * (A * (B * (C * (D * E)))) = A * (C * (D * (B * (O * E)))) from fun O A B C D E => by ac_rfl] at h7
      obtain ⟨oa, oc, rfl, _, _, _, _⟩ := own_value ho
      obtain ⟨tt2, ht2⟩ : ∃ tt2 : Nat, tt2 = (if l2 = [] then 49 else 0) := ⟨_, rfl⟩
      have hFd := hide (feed_frame d dp p m q 49 t (ownB (.slice oa (frame l2).length oc) (frame l2) * all w) w7 h7 hF.out.off _ l2 h60 (fun W hW => own_bytes hW) tt2 ht2)
      clear ho hs7 h7 H6 S6
      go_wp2_with fail
      refine hFd.out.mono ?_
      clear hFd
      rintro e w8 ⟨out, rfl, h8, hs8⟩
      have H8 := hide h8.right.right
      have hD0 : DvAt d p t (l0.take n) tt2 0 (all w) w8 := .inl ⟨dptr dp, .pointer (some ⟨m, 0, Option.none⟩), tt2, fun _ => by rw [ht2]; split <;> rfl, fun _ => ⟨by rw [ht2]; split <;> decide, rfl⟩, (SP.le.mul (SP.le.refl _) (SP.le.mul (SP.le.refl _) (SP.le_right _ _))).on h8⟩
      have HD0 := hide hD0
      have S8 := hide (S7.out.trans hs8)
      clear h8 hs8 S7 hD0
      generalize l0.take n = img at *
      have hle := Hfl.out
      subst hle
      obtain ⟨tk, rfl⟩ : ∃ tk : Nat, a1 = (tk : Int) := ⟨a1.toNat, by omega⟩
      obtain ⟨N, hN⟩ : ∃ N : Nat, N = tk % 120 := ⟨_, rfl⟩
      have eN : (tk : Int) % 120 = (N : Int) := by omega
      have hN120 : N < 120 := by omega
      by_cases hl2 : 0 < l2.length
      · have hl2I : decide ((0 : Int) < (l2.length : Int)) = true := decide_eq_true (by omega)
        obtain rfl : tt2 = 0 := ht2.trans (if_neg (fun e9 => by rw [e9] at hl2; simp at hl2))
        clear ht2
        go_wp2_with fail
        simp only [eN]
        clear eN hN
        go_loopw [77] (fun i wr => ∃ k : Nat, k ≤ N ∧ i = .int .i64 k ∧ DvAt d p t img 0 k (all w) wr ∧ Str w wr) (fun i _ => N - (intOf i).toNat)
        case atStart => exact ⟨0, by omega, rfl, HD0.out, S8.out⟩
        case round =>
          clear HD0 S8 H8
          obtain ⟨k, hk, rfl, hw, hstr⟩ := hrel
          have SR := hide hstr
          clear hstr
          by_cases hlt : k < N
          · have hkI : (k : Int) < (N : Int) := by omega
            have hSt := hide (dv_state hF.out hw)
            clear hw
            by_cases hr : runs img 0 k = true
            · have hr2 := of_decide_eq_true hr
              have hn1 : 0 < img.length := by
                rcases Nat.eq_zero_or_pos img.length with h0 | h0
                · exact absurd (List.length_eq_zero_iff.1 h0) hr2.1
                · exact h0
              have hnI : decide ((0 : Int) < (img.length : Int)) = true := decide_eq_true (by omega)
              have hkl : decide ((50 : Int) ≤ (k : Int)) = true := by have := hr2.2; simp; omega
              clear hr2
              have hT9 := hide (fun X (hX : DvAt d p t img 0 k (all w) X) => dv_tick (i := k) hF.out hX)
              go_wp2_with fail
              refine hSt.out.mono ?_
              clear hSt
              rintro e w9 ⟨ya, yn, yc, rfl, hy, h9, hs9⟩
              have H9 := hide h9
              have S9 := hide (SR.out.trans hs9)
              obtain ⟨ya2, yc2, hye, _, _, hly, _⟩ := hy hr
              obtain ⟨ya3, yc3, hoe, _, _, hlo, _⟩ := HBi.out w9 h9.flash.right
              simp only [Value.slice.injEq] at hye hoe
              obtain ⟨rfl, rfl, rfl⟩ := hye
              obtain ⟨rfl, -, rfl⟩ := hoe
              have Hly := hide hly
              have Hlo := hide hlo
              clear hly hlo
              clear hy h9 hs9 SR
              rw [hr]
              go_wp2_with fail
              refine wp_region_vsg [isV (.int .i64 2), isV (.int .i64 2), isV (.bool false), isV (.bool false), isV (.int .i64 2), isV (.bool true), isV (.bool true), isV (.slice ya img.length yc), isV (.string (strOf img)), isV (.slice a0 l0.length c0), isV (.int .i64 (img.length : Nat)), isV (.slice a0 img.length c0), isV (.string (strOf img)), isV (.bool false), isV (.bool false), isV (.bool false)]
                (by kernel_rfl) (by kernel_rfl) rfl ?keep ?todo ?rest
              case keep => exact ⟨Keep.isV _, Keep.isV _, Keep.isV _, Keep.isV _, Keep.isV _, Keep.isV _, Keep.isV _, Keep.isV _, Keep.isV _, Keep.isV _, Keep.isV _, Keep.isV _, Keep.isV _, Keep.isV _, Keep.isV _, Keep.isV _, trivial⟩
              case todo =>
                refine ⟨?_, ?_, ?_, ?_, ?_, ?_, ?_, ?_, ?_, ?_, ?_, ?_, ?_, ?_, ?_, ?_, trivial⟩
                · intro ev X hT hb hk hf
                  have e0 : ev (.tmp 14) = .int .i64 2 := hk.1
                  exact OpOk.move rfl e0 ⟨rfl, Stay.refl _⟩
                · intro ev X hT hb hk hf
                  have e0 : ev (.tmp 16) = .int .i64 2 := hk.1
                  exact OpOk.move rfl e0 ⟨rfl, Stay.refl _⟩
                · intro ev X hT hb hk hf
                  have e0 : ev (.tmp 92) = .int .i64 2 := hf.1
                  have e1 : ev (.tmp 93) = .int .i64 2 := hf.2.1
                  exact OpOk.run (v := .bool false) (W' := X) (by simp [execOp, e0, e1, hb.1, go_sem]) ⟨rfl, Stay.refl _⟩
                · intro ev X hT hb hk hf
                  have e0 : ev (.tmp 94) = .bool false := hf.1
                  exact OpOk.move rfl e0 ⟨rfl, Stay.refl _⟩
                · intro ev X hT hb hk hf
                  refine .inl ⟨false, hf.1, fun _ => ?_, fun h => (h rfl).elim⟩
                  have e0 : ev (.tmp 14) = .int .i64 2 := hk.1
                  exact OpOk.move rfl e0 ⟨rfl, Stay.refl _⟩
                · intro ev X hT hb hk hf
                  refine .inl ⟨false, hf.2.1, fun _ => ?_, fun h => (h rfl).elim⟩
                  have e0 : ev (.tmp 96) = .int .i64 2 := hf.1
                  exact OpOk.run (v := .bool true) (W' := X) (by simp [execOp, e0, hb.1, go_sem]) ⟨rfl, Stay.refl _⟩
                · intro ev X hT hb hk hf
                  refine .inl ⟨false, hf.2.1, fun _ => ?_, fun h => (h rfl).elim⟩
                  have e0 : ev (.tmp 97) = .bool true := hf.1
                  exact OpOk.move rfl e0 ⟨rfl, Stay.refl _⟩
                · intro ev X hT hb hk hf
                  refine .inl ⟨true, hf.1, fun _ => ?_, fun h => (h rfl).elim⟩
                  have e0 : ev (.tmp 15) = .slice ya img.length yc := hk.1
                  exact OpOk.move rfl e0 ⟨rfl, Stay.refl _⟩
                · intro ev X hT hb hk hf
                  refine .inl ⟨true, hf.2.1, fun _ => ?_, fun h => (h rfl).elim⟩
                  have e0 : ev (.tmp 99) = .slice ya img.length yc := hf.1
                  exact OpOk.convert rfl e0 (run_string_of hu8s hu8 (Hly.out.below hT) _ hstr) ⟨rfl, Stay.refl _⟩
                · intro ev X hT hb hk hf
                  refine .inl ⟨true, hf.1, fun _ => ?_, fun h => (h rfl).elim⟩
                  have e0 : ev (.tmp 0) = .slice a0 l0.length c0 := hk.1
                  exact OpOk.move rfl e0 ⟨rfl, Stay.refl _⟩
                · intro ev X hT hb hk hf
                  refine .inl ⟨true, hf.1, fun _ => ?_, fun h => (h rfl).elim⟩
                  have e0 : ev (.tmp 7) = .int .i64 (img.length : Nat) := hk.1
                  exact OpOk.move rfl e0 ⟨rfl, Stay.refl _⟩
                · intro ev X hT hb hk hf
                  refine .inl ⟨true, hf.2.2.1, fun _ => ?_, fun h => (h rfl).elim⟩
                  have e0 : ev (.tmp 101) = .slice a0 l0.length c0 := hf.1
                  have e1 : ev (.tmp 102) = .int .i64 (img.length : Nat) := hf.2.1
                  exact OpOk.run (v := .slice a0 img.length c0) (W' := X) (by simp [execOp, e0, e1, hnc, go_sem]) ⟨rfl, Stay.refl _⟩
                · intro ev X hT hb hk hf
                  refine .inl ⟨true, hf.2.1, fun _ => ?_, fun h => (h rfl).elim⟩
                  have e0 : ev (.tmp 103) = .slice a0 img.length c0 := hf.1
                  exact OpOk.convert rfl e0 (run_string_of hu8s hu8 (Hlo.out.below hT) _ hstr) ⟨rfl, Stay.refl _⟩
                · intro ev X hT hb hk hf
                  refine .inl ⟨true, hf.2.2.1, fun _ => ?_, fun h => (h rfl).elim⟩
                  have e0 : ev (.tmp 100) = .string (strOf img) := hf.1
                  have e1 : ev (.tmp 104) = .string (strOf img) := hf.2.1
                  exact OpOk.run (v := .bool false) (W' := X) (by simp [execOp, e0, e1, hb.1, go_sem]) ⟨rfl, Stay.refl _⟩
                · intro ev X hT hb hk hf
                  refine .inl ⟨false, hf.2.2.1, fun _ => ?_, fun h => (h rfl).elim⟩
                  have e0 : ev (.tmp 98) = .bool true := hf.1
                  have e1 : ev (.tmp 105) = .bool false := hf.2.1
                  exact OpOk.run (v := .bool false) (W' := X) (by simp [execOp, e0, e1, hb, hb.1, hb.2.1, hb.2.2, go_sem]) ⟨rfl, Stay.refl _⟩
                · intro ev X hT hb hk hf
                  have e0 : ev (.tmp 95) = .bool false := hf.1
                  have e1 : ev (.tmp 106) = .bool false := hf.2.1
                  exact OpOk.run (v := .bool false) (W' := X) (by simp [execOp, e0, e1, hb, hb.1, hb.2.1, hb.2.2, go_sem]) ⟨rfl, Stay.refl _⟩
              case rest =>
                intro X hT
                rintro _ rfl _ rfl _ rfl _ rfl _ rfl _ rfl _ rfl _ rfl _ rfl _ rfl _ rfl _ rfl _ rfl _ rfl _ rfl _ rfl
                have h10 := H9.out.below hT
                have S10 := hide (S9.out.trans (Str.below hT))
                have hTk := hide (hT9.out X h10)
                clear hT h10 H9 S9
                go_wp2
                refine Rest.done ?_
                go_wp2_with fail
                refine hTk.out.mono ?_
                clear hTk
                rintro e w11 ⟨⟨v9, rfl⟩, h11, hs11⟩
                have H11 := hide h11
                have S11 := hide (S10.out.trans hs11)
                clear h11 hs11 S10
                go_wp2_with fail
                exact ⟨⟨k + 1, by omega, by simp, H11.out, S11.out⟩, by simp [intOf]; omega⟩
            · have hr : runs img 0 k = false := by simpa using hr
              have hr2 := of_decide_eq_false hr
              by_cases hn1 : 0 < img.length
              · have hne : img ≠ [] := fun e9 => by rw [e9] at hn1; simp at hn1
                have hnI : decide ((0 : Int) < (img.length : Int)) = true := decide_eq_true (by omega)
                have hkl : decide ((50 : Int) ≤ (k : Int)) = false := by
                  have h3 : ¬ 50 ≤ 0 + k := fun h3 => hr2 ⟨hne, h3⟩
                  simp
                  omega
                clear hr2 hne
                have hT9 := hide (fun X (hX : DvAt d p t img 0 k (all w) X) => dv_tick (i := k) hF.out hX)
                go_wp2_with fail
                refine hSt.out.mono ?_
                clear hSt
                rintro e w9 ⟨ya, yn, yc, rfl, hy, h9, hs9⟩
                have H9 := hide h9
                have S9 := hide (SR.out.trans hs9)
                clear hy h9 hs9 SR
                rw [hr]
                go_wp2_with fail
                refine wp_region_vsg [isV (.int .i64 1), isV (.int .i64 1), isV (.bool false), isV (.bool false), isV (.int .i64 1), isV (.bool false), isV (.bool false), isV (undef), isV (undef), isV (undef), isV (undef), isV (undef), isV (undef), isV (undef), isV (.bool false), isV (.bool false)]
                  (by kernel_rfl) (by kernel_rfl) rfl ?keep ?todo ?rest
                case keep => exact ⟨Keep.isV _, Keep.isV _, Keep.isV _, Keep.isV _, Keep.isV _, Keep.isV _, Keep.isV _, Keep.isV _, Keep.isV _, Keep.isV _, Keep.isV _, Keep.isV _, Keep.isV _, Keep.isV _, Keep.isV _, Keep.isV _, trivial⟩
                case todo =>
                  refine ⟨?_, ?_, ?_, ?_, ?_, ?_, ?_, ?_, ?_, ?_, ?_, ?_, ?_, ?_, ?_, ?_, trivial⟩
                  · intro ev X hT hb hk hf
                    have e0 : ev (.tmp 14) = .int .i64 1 := hk.1
                    exact OpOk.move rfl e0 ⟨rfl, Stay.refl _⟩
                  · intro ev X hT hb hk hf
                    have e0 : ev (.tmp 16) = .int .i64 1 := hk.1
                    exact OpOk.move rfl e0 ⟨rfl, Stay.refl _⟩
                  · intro ev X hT hb hk hf
                    have e0 : ev (.tmp 92) = .int .i64 1 := hf.1
                    have e1 : ev (.tmp 93) = .int .i64 1 := hf.2.1
                    exact OpOk.run (v := .bool false) (W' := X) (by simp [execOp, e0, e1, hb.1, go_sem]) ⟨rfl, Stay.refl _⟩
                  · intro ev X hT hb hk hf
                    have e0 : ev (.tmp 94) = .bool false := hf.1
                    exact OpOk.move rfl e0 ⟨rfl, Stay.refl _⟩
                  · intro ev X hT hb hk hf
                    refine .inl ⟨false, hf.1, fun _ => ?_, fun h => (h rfl).elim⟩
                    have e0 : ev (.tmp 14) = .int .i64 1 := hk.1
                    exact OpOk.move rfl e0 ⟨rfl, Stay.refl _⟩
                  · intro ev X hT hb hk hf
                    refine .inl ⟨false, hf.2.1, fun _ => ?_, fun h => (h rfl).elim⟩
                    have e0 : ev (.tmp 96) = .int .i64 1 := hf.1
                    exact OpOk.run (v := .bool false) (W' := X) (by simp [execOp, e0, hb.1, go_sem]) ⟨rfl, Stay.refl _⟩
                  · intro ev X hT hb hk hf
                    refine .inl ⟨false, hf.2.1, fun _ => ?_, fun h => (h rfl).elim⟩
                    have e0 : ev (.tmp 97) = .bool false := hf.1
                    exact OpOk.move rfl e0 ⟨rfl, Stay.refl _⟩
                  · exact fun ev X hT hb hk hf => .inl ⟨false, hf.1, fun h => (nomatch h), fun _ => rfl⟩
                  · exact fun ev X hT hb hk hf => .inl ⟨false, hf.2.1, fun h => (nomatch h), fun _ => rfl⟩
                  · exact fun ev X hT hb hk hf => .inl ⟨false, hf.1, fun h => (nomatch h), fun _ => rfl⟩
                  · exact fun ev X hT hb hk hf => .inl ⟨false, hf.1, fun h => (nomatch h), fun _ => rfl⟩
                  · exact fun ev X hT hb hk hf => .inl ⟨false, hf.2.2.1, fun h => (nomatch h), fun _ => rfl⟩
                  · exact fun ev X hT hb hk hf => .inl ⟨false, hf.2.1, fun h => (nomatch h), fun _ => rfl⟩
                  · exact fun ev X hT hb hk hf => .inl ⟨false, hf.2.2.1, fun h => (nomatch h), fun _ => rfl⟩
                  · intro ev X hT hb hk hf
                    refine .inl ⟨false, hf.2.2.1, fun _ => ?_, fun h => (h rfl).elim⟩
                    have e0 : ev (.tmp 98) = .bool false := hf.1
                    have e1 : ev (.tmp 105) = undef := hf.2.1
                    exact OpOk.run (v := .bool false) (W' := X) (by simp [execOp, e0, e1, hb, hb.1, hb.2.1, hb.2.2, go_sem]) ⟨rfl, Stay.refl _⟩
                  · intro ev X hT hb hk hf
                    have e0 : ev (.tmp 95) = .bool false := hf.1
                    have e1 : ev (.tmp 106) = .bool false := hf.2.1
                    exact OpOk.run (v := .bool false) (W' := X) (by simp [execOp, e0, e1, hb, hb.1, hb.2.1, hb.2.2, go_sem]) ⟨rfl, Stay.refl _⟩
                case rest =>
                  intro X hT
                  rintro _ rfl _ rfl _ rfl _ rfl _ rfl _ rfl _ rfl _ rfl _ rfl _ rfl _ rfl _ rfl _ rfl _ rfl _ rfl _ rfl
                  have h10 := H9.out.below hT
                  have S10 := hide (S9.out.trans (Str.below hT))
                  have hTk := hide (hT9.out X h10)
                  clear hT h10 H9 S9
                  go_wp2
                  refine Rest.done ?_
                  go_wp2_with fail
                  refine hTk.out.mono ?_
                  clear hTk
                  rintro e w11 ⟨⟨v9, rfl⟩, h11, hs11⟩
                  have H11 := hide h11
                  have S11 := hide (S10.out.trans hs11)
                  clear h11 hs11 S10
                  go_wp2_with fail
                  exact ⟨⟨k + 1, by omega, by simp, H11.out, S11.out⟩, by simp [intOf]; omega⟩
              · have hnI : decide ((0 : Int) < (img.length : Int)) = false := decide_eq_false (by omega)
                clear hr2
                have hT9 := hide (fun X (hX : DvAt d p t img 0 k (all w) X) => dv_tick (i := k) hF.out hX)
                go_wp2_with fail
                refine hSt.out.mono ?_
                clear hSt
                rintro e w9 ⟨ya, yn, yc, rfl, hy, h9, hs9⟩
                have H9 := hide h9
                have S9 := hide (SR.out.trans hs9)
                clear hy h9 hs9 SR
                rw [hr]
                go_wp2_with fail
                refine wp_region_vsg [isV (.int .i64 1), isV (.int .i64 1), isV (.bool false), isV (.bool false), isV (.int .i64 1), isV (.bool false), isV (.bool false), isV (undef), isV (undef), isV (undef), isV (undef), isV (undef), isV (undef), isV (undef), isV (.bool false), isV (.bool false)]
                  (by kernel_rfl) (by kernel_rfl) rfl ?keep ?todo ?rest
                case keep => exact ⟨Keep.isV _, Keep.isV _, Keep.isV _, Keep.isV _, Keep.isV _, Keep.isV _, Keep.isV _, Keep.isV _, Keep.isV _, Keep.isV _, Keep.isV _, Keep.isV _, Keep.isV _, Keep.isV _, Keep.isV _, Keep.isV _, trivial⟩
                case todo =>
                  refine ⟨?_, ?_, ?_, ?_, ?_, ?_, ?_, ?_, ?_, ?_, ?_, ?_, ?_, ?_, ?_, ?_, trivial⟩
                  · intro ev X hT hb hk hf
                    have e0 : ev (.tmp 14) = .int .i64 1 := hk.1
                    exact OpOk.move rfl e0 ⟨rfl, Stay.refl _⟩
                  · intro ev X hT hb hk hf
                    have e0 : ev (.tmp 16) = .int .i64 1 := hk.1
                    exact OpOk.move rfl e0 ⟨rfl, Stay.refl _⟩
                  · intro ev X hT hb hk hf
                    have e0 : ev (.tmp 92) = .int .i64 1 := hf.1
                    have e1 : ev (.tmp 93) = .int .i64 1 := hf.2.1
                    exact OpOk.run (v := .bool false) (W' := X) (by simp [execOp, e0, e1, hb.1, go_sem]) ⟨rfl, Stay.refl _⟩
                  · intro ev X hT hb hk hf
                    have e0 : ev (.tmp 94) = .bool false := hf.1
                    exact OpOk.move rfl e0 ⟨rfl, Stay.refl _⟩
                  · intro ev X hT hb hk hf
                    refine .inl ⟨false, hf.1, fun _ => ?_, fun h => (h rfl).elim⟩
                    have e0 : ev (.tmp 14) = .int .i64 1 := hk.1
                    exact OpOk.move rfl e0 ⟨rfl, Stay.refl _⟩
                  · intro ev X hT hb hk hf
                    refine .inl ⟨false, hf.2.1, fun _ => ?_, fun h => (h rfl).elim⟩
                    have e0 : ev (.tmp 96) = .int .i64 1 := hf.1
                    exact OpOk.run (v := .bool false) (W' := X) (by simp [execOp, e0, hb.1, go_sem]) ⟨rfl, Stay.refl _⟩
                  · intro ev X hT hb hk hf
                    refine .inl ⟨false, hf.2.1, fun _ => ?_, fun h => (h rfl).elim⟩
                    have e0 : ev (.tmp 97) = .bool false := hf.1
                    exact OpOk.move rfl e0 ⟨rfl, Stay.refl _⟩
                  · exact fun ev X hT hb hk hf => .inl ⟨false, hf.1, fun h => (nomatch h), fun _ => rfl⟩
                  · exact fun ev X hT hb hk hf => .inl ⟨false, hf.2.1, fun h => (nomatch h), fun _ => rfl⟩
                  · exact fun ev X hT hb hk hf => .inl ⟨false, hf.1, fun h => (nomatch h), fun _ => rfl⟩
                  · exact fun ev X hT hb hk hf => .inl ⟨false, hf.1, fun h => (nomatch h), fun _ => rfl⟩
                  · exact fun ev X hT hb hk hf => .inl ⟨false, hf.2.2.1, fun h => (nomatch h), fun _ => rfl⟩
                  · exact fun ev X hT hb hk hf => .inl ⟨false, hf.2.1, fun h => (nomatch h), fun _ => rfl⟩
                  · exact fun ev X hT hb hk hf => .inl ⟨false, hf.2.2.1, fun h => (nomatch h), fun _ => rfl⟩
                  · intro ev X hT hb hk hf
                    refine .inl ⟨false, hf.2.2.1, fun _ => ?_, fun h => (h rfl).elim⟩
                    have e0 : ev (.tmp 98) = .bool false := hf.1
                    have e1 : ev (.tmp 105) = undef := hf.2.1
                    exact OpOk.run (v := .bool false) (W' := X) (by simp [execOp, e0, e1, hb, hb.1, hb.2.1, hb.2.2, go_sem]) ⟨rfl, Stay.refl _⟩
                  · intro ev X hT hb hk hf
                    have e0 : ev (.tmp 95) = .bool false := hf.1
                    have e1 : ev (.tmp 106) = .bool false := hf.2.1
                    exact OpOk.run (v := .bool false) (W' := X) (by simp [execOp, e0, e1, hb, hb.1, hb.2.1, hb.2.2, go_sem]) ⟨rfl, Stay.refl _⟩
                case rest =>
                  intro X hT
                  rintro _ rfl _ rfl _ rfl _ rfl _ rfl _ rfl _ rfl _ rfl _ rfl _ rfl _ rfl _ rfl _ rfl _ rfl _ rfl _ rfl
                  have h10 := H9.out.below hT
                  have S10 := hide (S9.out.trans (Str.below hT))
                  have hTk := hide (hT9.out X h10)
                  clear hT h10 H9 S9
                  go_wp2
                  refine Rest.done ?_
                  go_wp2_with fail
                  refine hTk.out.mono ?_
                  clear hTk
                  rintro e w11 ⟨⟨v9, rfl⟩, h11, hs11⟩
                  have H11 := hide h11
                  have S11 := hide (S10.out.trans hs11)
                  clear h11 hs11 S10
                  go_wp2_with fail
                  exact ⟨⟨k + 1, by omega, by simp, H11.out, S11.out⟩, by simp [intOf]; omega⟩
          · have hkI : ¬ (k : Int) < (N : Int) := by omega
            have hRs := hide (dv_reset hF.out HLa.out hw)
            clear hw
            go_wp2_with fail
            refine hRs.out.mono ?_
            clear hRs
            rintro e w9 ⟨⟨v9, rfl⟩, h9, hs9⟩
            have hLs := hide (dv_last hF.out h9)
            have S9 := hide (SR.out.trans hs9)
            clear h9 hs9 SR
            by_cases hn1 : 0 < img.length
            · have hne : img ≠ [] := fun e9 => by rw [e9] at hn1; simp at hn1
              have hnI : decide ((0 : Int) < (img.length : Int)) = true := decide_eq_true (by omega)
              go_wp2_with fail
              refine hLs.out.mono ?_
              clear hLs
              rintro e w10 ⟨ya, yn, yc, rfl, h10, hs10⟩
              have HE := hide (all_below h10 (S9.out.trans hs10))
              rw [if_neg hne]
              clear h10 hs10 S9 hne
              go_wp2_with fail
              go_ret
              exact ⟨rfl, HE.out⟩
            · have hne : img = [] := List.length_eq_zero_iff.1 (by omega)
              have hnI : decide ((0 : Int) < (img.length : Int)) = false := decide_eq_false (by omega)
              go_wp2_with fail
              refine hLs.out.mono ?_
              clear hLs
              rintro e w10 ⟨ya, yn, yc, rfl, h10, hs10⟩
              have HE := hide (all_below h10 (S9.out.trans hs10))
              rw [if_pos hne]
              clear h10 hs10 S9 hne
              go_wp2_with fail
              go_ret
              exact ⟨rfl, HE.out⟩
      · have hl2I : decide ((0 : Int) < (l2.length : Int)) = false := decide_eq_false (by omega)
        obtain rfl : tt2 = 49 := ht2.trans (if_pos (nil_of_len hl2))
        clear ht2
        go_wp2_with fail
        simp only [eN]
        clear eN hN
        go_loopw [77] (fun i wr => ∃ k : Nat, k ≤ N ∧ i = .int .i64 k ∧ DvAt d p t img 49 k (all w) wr ∧ Str w wr) (fun i _ => N - (intOf i).toNat)
        case atStart => exact ⟨0, by omega, rfl, HD0.out, S8.out⟩
        case round =>
          clear HD0 S8 H8
          obtain ⟨k, hk, rfl, hw, hstr⟩ := hrel
          have SR := hide hstr
          clear hstr
          by_cases hlt : k < N
          · have hkI : (k : Int) < (N : Int) := by omega
            have hSt := hide (dv_state hF.out hw)
            clear hw
            by_cases hr : runs img 49 k = true
            · have hr2 := of_decide_eq_true hr
              have hn1 : 0 < img.length := by
                rcases Nat.eq_zero_or_pos img.length with h0 | h0
                · exact absurd (List.length_eq_zero_iff.1 h0) hr2.1
                · exact h0
              have hnI : decide ((0 : Int) < (img.length : Int)) = true := decide_eq_true (by omega)
              have hkl : decide ((1 : Int) ≤ (k : Int)) = true := by have := hr2.2; simp; omega
              clear hr2
              have hT9 := hide (fun X (hX : DvAt d p t img 49 k (all w) X) => dv_tick (i := k) hF.out hX)
              go_wp2_with fail
              refine hSt.out.mono ?_
              clear hSt
              rintro e w9 ⟨ya, yn, yc, rfl, hy, h9, hs9⟩
              have H9 := hide h9
              have S9 := hide (SR.out.trans hs9)
              obtain ⟨ya2, yc2, hye, _, _, hly, _⟩ := hy hr
              obtain ⟨ya3, yc3, hoe, _, _, hlo, _⟩ := HBi.out w9 h9.flash.right
              simp only [Value.slice.injEq] at hye hoe
              obtain ⟨rfl, rfl, rfl⟩ := hye
              obtain ⟨rfl, -, rfl⟩ := hoe
              have Hly := hide hly
              have Hlo := hide hlo
              clear hly hlo
              clear hy h9 hs9 SR
              rw [hr]
              go_wp2_with fail
              refine wp_region_vsg [isV (.int .i64 2), isV (.int .i64 2), isV (.bool false), isV (.bool false), isV (.int .i64 2), isV (.bool true), isV (.bool true), isV (.slice ya img.length yc), isV (.string (strOf img)), isV (.slice a0 l0.length c0), isV (.int .i64 (img.length : Nat)), isV (.slice a0 img.length c0), isV (.string (strOf img)), isV (.bool false), isV (.bool false), isV (.bool false)]
                (by kernel_rfl) (by kernel_rfl) rfl ?keep ?todo ?rest
              case keep => exact ⟨Keep.isV _, Keep.isV _, Keep.isV _, Keep.isV _, Keep.isV _, Keep.isV _, Keep.isV _, Keep.isV _, Keep.isV _, Keep.isV _, Keep.isV _, Keep.isV _, Keep.isV _, Keep.isV _, Keep.isV _, Keep.isV _, trivial⟩
              case todo =>
                refine ⟨?_, ?_, ?_, ?_, ?_, ?_, ?_, ?_, ?_, ?_, ?_, ?_, ?_, ?_, ?_, ?_, trivial⟩
                · intro ev X hT hb hk hf
                  have e0 : ev (.tmp 14) = .int .i64 2 := hk.1
                  exact OpOk.move rfl e0 ⟨rfl, Stay.refl _⟩
                · intro ev X hT hb hk hf
                  have e0 : ev (.tmp 16) = .int .i64 2 := hk.1
                  exact OpOk.move rfl e0 ⟨rfl, Stay.refl _⟩
                · intro ev X hT hb hk hf
                  have e0 : ev (.tmp 92) = .int .i64 2 := hf.1
                  have e1 : ev (.tmp 93) = .int .i64 2 := hf.2.1
                  exact OpOk.run (v := .bool false) (W' := X) (by simp [execOp, e0, e1, hb.1, go_sem]) ⟨rfl, Stay.refl _⟩
                · intro ev X hT hb hk hf
                  have e0 : ev (.tmp 94) = .bool false := hf.1
                  exact OpOk.move rfl e0 ⟨rfl, Stay.refl _⟩
                · intro ev X hT hb hk hf
                  refine .inl ⟨false, hf.1, fun _ => ?_, fun h => (h rfl).elim⟩
                  have e0 : ev (.tmp 14) = .int .i64 2 := hk.1
                  exact OpOk.move rfl e0 ⟨rfl, Stay.refl _⟩
                · intro ev X hT hb hk hf
                  refine .inl ⟨false, hf.2.1, fun _ => ?_, fun h => (h rfl).elim⟩
                  have e0 : ev (.tmp 96) = .int .i64 2 := hf.1
                  exact OpOk.run (v := .bool true) (W' := X) (by simp [execOp, e0, hb.1, go_sem]) ⟨rfl, Stay.refl _⟩
                · intro ev X hT hb hk hf
                  refine .inl ⟨false, hf.2.1, fun _ => ?_, fun h => (h rfl).elim⟩
                  have e0 : ev (.tmp 97) = .bool true := hf.1
                  exact OpOk.move rfl e0 ⟨rfl, Stay.refl _⟩
                · intro ev X hT hb hk hf
                  refine .inl ⟨true, hf.1, fun _ => ?_, fun h => (h rfl).elim⟩
                  have e0 : ev (.tmp 15) = .slice ya img.length yc := hk.1
                  exact OpOk.move rfl e0 ⟨rfl, Stay.refl _⟩
                · intro ev X hT hb hk hf
                  refine .inl ⟨true, hf.2.1, fun _ => ?_, fun h => (h rfl).elim⟩
                  have e0 : ev (.tmp 99) = .slice ya img.length yc := hf.1
                  exact OpOk.convert rfl e0 (run_string_of hu8s hu8 (Hly.out.below hT) _ hstr) ⟨rfl, Stay.refl _⟩
                · intro ev X hT hb hk hf
                  refine .inl ⟨true, hf.1, fun _ => ?_, fun h => (h rfl).elim⟩
                  have e0 : ev (.tmp 0) = .slice a0 l0.length c0 := hk.1
                  exact OpOk.move rfl e0 ⟨rfl, Stay.refl _⟩
                · intro ev X hT hb hk hf
                  refine .inl ⟨true, hf.1, fun _ => ?_, fun h => (h rfl).elim⟩
                  have e0 : ev (.tmp 7) = .int .i64 (img.length : Nat) := hk.1
                  exact OpOk.move rfl e0 ⟨rfl, Stay.refl _⟩
                · intro ev X hT hb hk hf
                  refine .inl ⟨true, hf.2.2.1, fun _ => ?_, fun h => (h rfl).elim⟩
                  have e0 : ev (.tmp 101) = .slice a0 l0.length c0 := hf.1
                  have e1 : ev (.tmp 102) = .int .i64 (img.length : Nat) := hf.2.1
                  exact OpOk.run (v := .slice a0 img.length c0) (W' := X) (by simp [execOp, e0, e1, hnc, go_sem]) ⟨rfl, Stay.refl _⟩
                · intro ev X hT hb hk hf
                  refine .inl ⟨true, hf.2.1, fun _ => ?_, fun h => (h rfl).elim⟩
                  have e0 : ev (.tmp 103) = .slice a0 img.length c0 := hf.1
                  exact OpOk.convert rfl e0 (run_string_of hu8s hu8 (Hlo.out.below hT) _ hstr) ⟨rfl, Stay.refl _⟩
                · intro ev X hT hb hk hf
                  refine .inl ⟨true, hf.2.2.1, fun _ => ?_, fun h => (h rfl).elim⟩
                  have e0 : ev (.tmp 100) = .string (strOf img) := hf.1
                  have e1 : ev (.tmp 104) = .string (strOf img) := hf.2.1
                  exact OpOk.run (v := .bool false) (W' := X) (by simp [execOp, e0, e1, hb.1, go_sem]) ⟨rfl, Stay.refl _⟩
                · intro ev X hT hb hk hf
                  refine .inl ⟨false, hf.2.2.1, fun _ => ?_, fun h => (h rfl).elim⟩
                  have e0 : ev (.tmp 98) = .bool true := hf.1
                  have e1 : ev (.tmp 105) = .bool false := hf.2.1
                  exact OpOk.run (v := .bool false) (W' := X) (by simp [execOp, e0, e1, hb, hb.1, hb.2.1, hb.2.2, go_sem]) ⟨rfl, Stay.refl _⟩
                · intro ev X hT hb hk hf
                  have e0 : ev (.tmp 95) = .bool false := hf.1
                  have e1 : ev (.tmp 106) = .bool false := hf.2.1
                  exact OpOk.run (v := .bool false) (W' := X) (by simp [execOp, e0, e1, hb, hb.1, hb.2.1, hb.2.2, go_sem]) ⟨rfl, Stay.refl _⟩
              case rest =>
                intro X hT
                rintro _ rfl _ rfl _ rfl _ rfl _ rfl _ rfl _ rfl _ rfl _ rfl _ rfl _ rfl _ rfl _ rfl _ rfl _ rfl _ rfl
                have h10 := H9.out.below hT
                have S10 := hide (S9.out.trans (Str.below hT))
                have hTk := hide (hT9.out X h10)
                clear hT h10 H9 S9
                go_wp2
                refine Rest.done ?_
                go_wp2_with fail
                refine hTk.out.mono ?_
                clear hTk
                rintro e w11 ⟨⟨v9, rfl⟩, h11, hs11⟩
                have H11 := hide h11
                have S11 := hide (S10.out.trans hs11)
                clear h11 hs11 S10
                go_wp2_with fail
                exact ⟨⟨k + 1, by omega, by simp, H11.out, S11.out⟩, by simp [intOf]; omega⟩
            · have hr : runs img 49 k = false := by simpa using hr
              have hr2 := of_decide_eq_false hr
              by_cases hn1 : 0 < img.length
              · have hne : img ≠ [] := fun e9 => by rw [e9] at hn1; simp at hn1
                have hnI : decide ((0 : Int) < (img.length : Int)) = true := decide_eq_true (by omega)
                have hkl : decide ((1 : Int) ≤ (k : Int)) = false := by
                  have h3 : ¬ 50 ≤ 49 + k := fun h3 => hr2 ⟨hne, h3⟩
                  simp
                  omega
                clear hr2 hne
                have hT9 := hide (fun X (hX : DvAt d p t img 49 k (all w) X) => dv_tick (i := k) hF.out hX)
                go_wp2_with fail
                refine hSt.out.mono ?_
                clear hSt
                rintro e w9 ⟨ya, yn, yc, rfl, hy, h9, hs9⟩
                have H9 := hide h9
                have S9 := hide (SR.out.trans hs9)
                clear hy h9 hs9 SR
                rw [hr]
                go_wp2_with fail
                refine wp_region_vsg [isV (.int .i64 1), isV (.int .i64 1), isV (.bool false), isV (.bool false), isV (.int .i64 1), isV (.bool false), isV (.bool false), isV (undef), isV (undef), isV (undef), isV (undef), isV (undef), isV (undef), isV (undef), isV (.bool false), isV (.bool false)]
                  (by kernel_rfl) (by kernel_rfl) rfl ?keep ?todo ?rest
                case keep => exact ⟨Keep.isV _, Keep.isV _, Keep.isV _, Keep.isV _, Keep.isV _, Keep.isV _, Keep.isV _, Keep.isV _, Keep.isV _, Keep.isV _, Keep.isV _, Keep.isV _, Keep.isV _, Keep.isV _, Keep.isV _, Keep.isV _, trivial⟩
                case todo =>
                  refine ⟨?_, ?_, ?_, ?_, ?_, ?_, ?_, ?_, ?_, ?_, ?_, ?_, ?_, ?_, ?_, ?_, trivial⟩
                  · intro ev X hT hb hk hf
                    have e0 : ev (.tmp 14) = .int .i64 1 := hk.1
                    exact OpOk.move rfl e0 ⟨rfl, Stay.refl _⟩
                  · intro ev X hT hb hk hf
                    have e0 : ev (.tmp 16) = .int .i64 1 := hk.1
                    exact OpOk.move rfl e0 ⟨rfl, Stay.refl _⟩
                  · intro ev X hT hb hk hf
                    have e0 : ev (.tmp 92) = .int .i64 1 := hf.1
                    have e1 : ev (.tmp 93) = .int .i64 1 := hf.2.1
                    exact OpOk.run (v := .bool false) (W' := X) (by simp [execOp, e0, e1, hb.1, go_sem]) ⟨rfl, Stay.refl _⟩
                  · intro ev X hT hb hk hf
                    have e0 : ev (.tmp 94) = .bool false := hf.1
                    exact OpOk.move rfl e0 ⟨rfl, Stay.refl _⟩
                  · intro ev X hT hb hk hf
                    refine .inl ⟨false, hf.1, fun _ => ?_, fun h => (h rfl).elim⟩
                    have e0 : ev (.tmp 14) = .int .i64 1 := hk.1
                    exact OpOk.move rfl e0 ⟨rfl, Stay.refl _⟩
                  · intro ev X hT hb hk hf
                    refine .inl ⟨false, hf.2.1, fun _ => ?_, fun h => (h rfl).elim⟩
                    have e0 : ev (.tmp 96) = .int .i64 1 := hf.1
                    exact OpOk.run (v := .bool false) (W' := X) (by simp [execOp, e0, hb.1, go_sem]) ⟨rfl, Stay.refl _⟩
                  · intro ev X hT hb hk hf
                    refine .inl ⟨false, hf.2.1, fun _ => ?_, fun h => (h rfl).elim⟩
                    have e0 : ev (.tmp 97) = .bool false := hf.1
                    exact OpOk.move rfl e0 ⟨rfl, Stay.refl _⟩
                  · exact fun ev X hT hb hk hf => .inl ⟨false, hf.1, fun h => (nomatch h), fun _ => rfl⟩
                  · exact fun ev X hT hb hk hf => .inl ⟨false, hf.2.1, fun h => (nomatch h), fun _ => rfl⟩
                  · exact fun ev X hT hb hk hf => .inl ⟨false, hf.1, fun h => (nomatch h), fun _ => rfl⟩
                  · exact fun ev X hT hb hk hf => .inl ⟨false, hf.1, fun h => (nomatch h), fun _ => rfl⟩
                  · exact fun ev X hT hb hk hf => .inl ⟨false, hf.2.2.1, fun h => (nomatch h), fun _ => rfl⟩
                  · exact fun ev X hT hb hk hf => .inl ⟨false, hf.2.1, fun h => (nomatch h), fun _ => rfl⟩
                  · exact fun ev X hT hb hk hf => .inl ⟨false, hf.2.2.1, fun h => (nomatch h), fun _ => rfl⟩
                  · intro ev X hT hb hk hf
                    refine .inl ⟨false, hf.2.2.1, fun _ => ?_, fun h => (h rfl).elim⟩
                    have e0 : ev (.tmp 98) = .bool false := hf.1
                    have e1 : ev (.tmp 105) = undef := hf.2.1
                    exact OpOk.run (v := .bool false) (W' := X) (by simp [execOp, e0, e1, hb, hb.1, hb.2.1, hb.2.2, go_sem]) ⟨rfl, Stay.refl _⟩
                  · intro ev X hT hb hk hf
                    have e0 : ev (.tmp 95) = .bool false := hf.1
                    have e1 : ev (.tmp 106) = .bool false := hf.2.1
                    exact OpOk.run (v := .bool false) (W' := X) (by simp [execOp, e0, e1, hb, hb.1, hb.2.1, hb.2.2, go_sem]) ⟨rfl, Stay.refl _⟩
                case rest =>
                  intro X hT
                  rintro _ rfl _ rfl _ rfl _ rfl _ rfl _ rfl _ rfl _ rfl _ rfl _ rfl _ rfl _ rfl _ rfl _ rfl _ rfl _ rfl
                  have h10 := H9.out.below hT
                  have S10 := hide (S9.out.trans (Str.below hT))
                  have hTk := hide (hT9.out X h10)
                  clear hT h10 H9 S9
                  go_wp2
                  refine Rest.done ?_
                  go_wp2_with fail
                  refine hTk.out.mono ?_
                  clear hTk
                  rintro e w11 ⟨⟨v9, rfl⟩, h11, hs11⟩
                  have H11 := hide h11
                  have S11 := hide (S10.out.trans hs11)
                  clear h11 hs11 S10
                  go_wp2_with fail
                  exact ⟨⟨k + 1, by omega, by simp, H11.out, S11.out⟩, by simp [intOf]; omega⟩
              · have hnI : decide ((0 : Int) < (img.length : Int)) = false := decide_eq_false (by omega)
                clear hr2
                have hT9 := hide (fun X (hX : DvAt d p t img 49 k (all w) X) => dv_tick (i := k) hF.out hX)
                go_wp2_with fail
                refine hSt.out.mono ?_
                clear hSt
                rintro e w9 ⟨ya, yn, yc, rfl, hy, h9, hs9⟩
                have H9 := hide h9
                have S9 := hide (SR.out.trans hs9)
                clear hy h9 hs9 SR
                rw [hr]
                go_wp2_with fail
                refine wp_region_vsg [isV (.int .i64 1), isV (.int .i64 1), isV (.bool false), isV (.bool false), isV (.int .i64 1), isV (.bool false), isV (.bool false), isV (undef), isV (undef), isV (undef), isV (undef), isV (undef), isV (undef), isV (undef), isV (.bool false), isV (.bool false)]
                  (by kernel_rfl) (by kernel_rfl) rfl ?keep ?todo ?rest
                case keep => exact ⟨Keep.isV _, Keep.isV _, Keep.isV _, Keep.isV _, Keep.isV _, Keep.isV _, Keep.isV _, Keep.isV _, Keep.isV _, Keep.isV _, Keep.isV _, Keep.isV _, Keep.isV _, Keep.isV _, Keep.isV _, Keep.isV _, trivial⟩
                case todo =>
                  refine ⟨?_, ?_, ?_, ?_, ?_, ?_, ?_, ?_, ?_, ?_, ?_, ?_, ?_, ?_, ?_, ?_, trivial⟩
                  · intro ev X hT hb hk hf
                    have e0 : ev (.tmp 14) = .int .i64 1 := hk.1
                    exact OpOk.move rfl e0 ⟨rfl, Stay.refl _⟩
                  · intro ev X hT hb hk hf
                    have e0 : ev (.tmp 16) = .int .i64 1 := hk.1
                    exact OpOk.move rfl e0 ⟨rfl, Stay.refl _⟩
                  · intro ev X hT hb hk hf
                    have e0 : ev (.tmp 92) = .int .i64 1 := hf.1
                    have e1 : ev (.tmp 93) = .int .i64 1 := hf.2.1
                    exact OpOk.run (v := .bool false) (W' := X) (by simp [execOp, e0, e1, hb.1, go_sem]) ⟨rfl, Stay.refl _⟩
                  · intro ev X hT hb hk hf
                    have e0 : ev (.tmp 94) = .bool false := hf.1
                    exact OpOk.move rfl e0 ⟨rfl, Stay.refl _⟩
                  · intro ev X hT hb hk hf
                    refine .inl ⟨false, hf.1, fun _ => ?_, fun h => (h rfl).elim⟩
                    have e0 : ev (.tmp 14) = .int .i64 1 := hk.1
                    exact OpOk.move rfl e0 ⟨rfl, Stay.refl _⟩
                  · intro ev X hT hb hk hf
                    refine .inl ⟨false, hf.2.1, fun _ => ?_, fun h => (h rfl).elim⟩
                    have e0 : ev (.tmp 96) = .int .i64 1 := hf.1
                    exact OpOk.run (v := .bool false) (W' := X) (by simp [execOp, e0, hb.1, go_sem]) ⟨rfl, Stay.refl _⟩
                  · intro ev X hT hb hk hf
                    refine .inl ⟨false, hf.2.1, fun _ => ?_, fun h => (h rfl).elim⟩
                    have e0 : ev (.tmp 97) = .bool false := hf.1
                    exact OpOk.move rfl e0 ⟨rfl, Stay.refl _⟩
                  · exact fun ev X hT hb hk hf => .inl ⟨false, hf.1, fun h => (nomatch h), fun _ => rfl⟩
                  · exact fun ev X hT hb hk hf => .inl ⟨false, hf.2.1, fun h => (nomatch h), fun _ => rfl⟩
                  · exact fun ev X hT hb hk hf => .inl ⟨false, hf.1, fun h => (nomatch h), fun _ => rfl⟩
                  · exact fun ev X hT hb hk hf => .inl ⟨false, hf.1, fun h => (nomatch h), fun _ => rfl⟩
                  · exact fun ev X hT hb hk hf => .inl ⟨false, hf.2.2.1, fun h => (nomatch h), fun _ => rfl⟩
                  · exact fun ev X hT hb hk hf => .inl ⟨false, hf.2.1, fun h => (nomatch h), fun _ => rfl⟩
                  · exact fun ev X hT hb hk hf => .inl ⟨false, hf.2.2.1, fun h => (nomatch h), fun _ => rfl⟩
                  · intro ev X hT hb hk hf
                    refine .inl ⟨false, hf.2.2.1, fun _ => ?_, fun h => (h rfl).elim⟩
                    have e0 : ev (.tmp 98) = .bool false := hf.1
                    have e1 : ev (.tmp 105) = undef := hf.2.1
                    exact OpOk.run (v := .bool false) (W' := X) (by simp [execOp, e0, e1, hb, hb.1, hb.2.1, hb.2.2, go_sem]) ⟨rfl, Stay.refl _⟩
                  · intro ev X hT hb hk hf
                    have e0 : ev (.tmp 95) = .bool false := hf.1
                    have e1 : ev (.tmp 106) = .bool false := hf.2.1
                    exact OpOk.run (v := .bool false) (W' := X) (by simp [execOp, e0, e1, hb, hb.1, hb.2.1, hb.2.2, go_sem]) ⟨rfl, Stay.refl _⟩
                case rest =>
                  intro X hT
                  rintro _ rfl _ rfl _ rfl _ rfl _ rfl _ rfl _ rfl _ rfl _ rfl _ rfl _ rfl _ rfl _ rfl _ rfl _ rfl _ rfl
                  have h10 := H9.out.below hT
                  have S10 := hide (S9.out.trans (Str.below hT))
                  have hTk := hide (hT9.out X h10)
                  clear hT h10 H9 S9
                  go_wp2
                  refine Rest.done ?_
                  go_wp2_with fail
                  refine hTk.out.mono ?_
                  clear hTk
                  rintro e w11 ⟨⟨v9, rfl⟩, h11, hs11⟩
                  have H11 := hide h11
                  have S11 := hide (S10.out.trans hs11)
                  clear h11 hs11 S10
                  go_wp2_with fail
                  exact ⟨⟨k + 1, by omega, by simp, H11.out, S11.out⟩, by simp [intOf]; omega⟩
          · have hkI : ¬ (k : Int) < (N : Int) := by omega
            have hRs := hide (dv_reset hF.out HLa.out hw)
            clear hw
            go_wp2_with fail
            refine hRs.out.mono ?_
            clear hRs
            rintro e w9 ⟨⟨v9, rfl⟩, h9, hs9⟩
            have hLs := hide (dv_last hF.out h9)
            have S9 := hide (SR.out.trans hs9)
            clear h9 hs9 SR
            by_cases hn1 : 0 < img.length
            · have hne : img ≠ [] := fun e9 => by rw [e9] at hn1; simp at hn1
              have hnI : decide ((0 : Int) < (img.length : Int)) = true := decide_eq_true (by omega)
              go_wp2_with fail
              refine hLs.out.mono ?_
              clear hLs
              rintro e w10 ⟨ya, yn, yc, rfl, h10, hs10⟩
              have HE := hide (all_below h10 (S9.out.trans hs10))
              rw [if_neg hne]
              clear h10 hs10 S9 hne
              go_wp2_with fail
              go_ret
              exact ⟨rfl, HE.out⟩
            · have hne : img = [] := List.length_eq_zero_iff.1 (by omega)
              have hnI : decide ((0 : Int) < (img.length : Int)) = false := decide_eq_false (by omega)
              go_wp2_with fail
              refine hLs.out.mono ?_
              clear hLs
              rintro e w10 ⟨ya, yn, yc, rfl, h10, hs10⟩
              have HE := hide (all_below h10 (S9.out.trans hs10))
              rw [if_pos hne]
              clear h10 hs10 S9 hne
              go_wp2_with fail
              go_ret
              exact ⟨rfl, HE.out⟩
namespace lawDeviceIdle
theorem own : ownKnob Tryz.prog.godebug = Option.none := by kernel_rfl
theorem laidOut : laidOutB Tryz.prog = true := by kernel_rfl

set_option maxRecDepth 100000 in
theorem contract (H : Type) (enc : TypeId × Value → H) (W : World) (base : Nat) (args : Array Value) (ds gs : List (DataW H)) (before : List MemPlace)
    (hval0 : ∀ (j : Nat) t v, Tryz.f3.params[j]? = some t → args[j]? = some v → Value.okWide Tryz.prog W .any base t v)
    (hW : DataW.Whole enc Tryz.prog Tryz.f3.params.toList Rows.deviceIdleSpec.vars false W args.toList ds gs before) (hsz : (DataW.weightsEach Tryz.prog (Tryz.f3.params.toList ++ (OpenSpec.ofChange Rows.deviceIdleSpec).bare.plain.varTypes Tryz.prog) (ds ++ gs)).all (· ≤ reachBytes) = true) (hL : laidMetH Tryz.prog Rows.deviceIdleRow.laid W) :
    Calls Tryz.prog 3 args W fun e W' => ∃ v, e = .returned v ∧ Rows.deviceIdleSpec.post enc Tryz.prog Tryz.f3 false true false false W args v W' := by
  have hval : ∀ (j : Nat) t v, Tryz.f3.params[j]? = some t → args[j]? = some v → Value.okWide Tryz.prog W .any base t v := hval0
  have hW' := hW
  obtain ⟨p, q, hA0, hV, rfl, hfz, hnd⟩ := hW
  have hA : DataW.TrodAll enc Tryz.prog W 0 (fun _ => true) true Tryz.f3.params.toList args.toList ds p := hA0
  rw [Tryz.params3] at hA hval
  obtain ⟨v0, vs0, d0, ds0, p0, q0, hargs, rfl, rfl, h0, r0⟩ := trodAll_cons hA
  obtain ⟨v1, vs1, d1, ds1, p1, q1, rfl, rfl, rfl, h1, r1⟩ := trodAll_cons r0
  obtain ⟨v2, vs2, d2, ds2, p2, q2, rfl, rfl, rfl, h2, r2⟩ := trodAll_cons r1
  obtain ⟨rfl, rfl, rfl⟩ := trodAll_nil r2
  obtain rfl : args = #[v0, v1, v2] := by cases args; simp_all
  obtain ⟨rfl, rfl⟩ := trodVars_none hV
  have k0 := h0
  have lt0 : ∀ x ∈ p0, x.block < W.heap.size := by obtain ⟨m, hm⟩ := k0; exact DataW.trod_lt m _ _ _ hm
  obtain ⟨l0, b0, n0⟩ := open_bytes Tryz.underlying22 Tryz.underlying5 (by kernel_rfl) (hval 0 22 v0 rfl rfl) h0
  have k1 := h1
  have lt1 : ∀ x ∈ p1, x.block < W.heap.size := by obtain ⟨m, hm⟩ := k1; exact DataW.trod_lt m _ _ _ hm
  obtain ⟨a1, rfl, rfl, rfl, w1⟩ := open_int Tryz.underlying5 (hval 1 5 v1 rfl rfl) h1
  obtain ⟨l1, u1⟩ := wf_u8 w1
  have k2 := h2
  have lt2 : ∀ x ∈ p2, x.block < W.heap.size := by obtain ⟨m, hm⟩ := k2; exact DataW.trod_lt m _ _ _ hm
  obtain ⟨l2, b2, n2⟩ := open_bytes Tryz.underlying22 Tryz.underlying5 (by kernel_rfl) (hval 2 22 v2 rfl rfl) h2
  clear hA0 hval0 hsz
  refine (walk_DeviceIdle W hL v0 l0 b0 a1 l1 u1 v2 l2 b2).mono fun e W' ⟨he, bel⟩ => ?_
  subst he
  exact ⟨_, rfl, _, _, _, [], _, [], hW', trodAll_mk1 (shut_bool Tryz.underlying4 _), (trodAll_cons_mk (Below.trod laidOut (by kernel_rfl) (of_decide_eq_true (by kernel_rfl)) k0 bel lt0) (trodAll_cons_mk (shut_int Tryz.underlying5 w1) (trodAll_cons_mk (Below.trod laidOut (by kernel_rfl) (of_decide_eq_true (by kernel_rfl)) k2 bel lt2) trodAll_mk0))), rfl, bel.frame _, fun h => by cases h⟩

/-- a world for the witness: the settled one, the listed variables holding what their initialisers lay -/
def litCells (d : DataW Unit) : Array Value := match d with
  | .agg l => (l.filterMap fun x => match x with | .lit (.int k n) => some (Value.int k n) | _ => Option.none).toArray
  | _ => #[]
noncomputable def laidWorld (os : Os) : World :=
  { World.holding Tryz.prog os ⟨#[], #[], []⟩ with heap := (((((((((((((((World.holding Tryz.prog os ⟨#[], #[], []⟩).heap.modify 8 fun
      | .cells _ t frozen => .cells (litCells Rows.laid_bosun_field_modulus) t frozen
      | o => o).modify 9 fun
      | .cells _ t frozen => .cells (litCells Rows.laid_bosun_field_lessTwo) t frozen
      | o => o).modify 10 fun
      | .cells _ t frozen => .cells (litCells Rows.laid_bosun_field_eighth) t frozen
      | o => o).modify 11 fun
      | .cells _ t frozen => .cells (litCells Rows.laid_bosun_field_rootOfMinusOne) t frozen
      | o => o).modify 12 fun
      | .cells _ t frozen => .cells (litCells Rows.laid_bosun_longsum_first) t frozen
      | o => o).modify 13 fun
      | .cells _ t frozen => .cells (litCells Rows.laid_bosun_longsum_rounds) t frozen
      | o => o).modify 6 fun
      | .cells _ t frozen => .cells (litCells Rows.laid_bosun_scalar_order) t frozen
      | o => o).modify 5 fun
      | .cells _ t frozen => .cells (litCells Rows.laid_bosun_curve_d) t frozen
      | o => o).modify 7 fun
      | .cells _ t frozen => .cells (litCells Rows.laid_bosun_curve_dTwice) t frozen
      | o => o).modify 3 fun
      | .cells _ t frozen => .cells (litCells Rows.laid_bosun_curve_baseX) t frozen
      | o => o).modify 4 fun
      | .cells _ t frozen => .cells (litCells Rows.laid_bosun_curve_baseY) t frozen
      | o => o).modify 0 fun
      | .cells _ t frozen => .cells (litCells Rows.laid_bosun_shortsum_first) t frozen
      | o => o).modify 2 fun
      | .cells _ t frozen => .cells (litCells Rows.laid_bosun_shortsum_rounds) t frozen
      | o => o).modify 1 fun
      | .cells _ t frozen => .cells (litCells Rows.laid_bosun_packet_lengths) t frozen
      | o => o) }
theorem laid_met (os : Os) : laidMet Tryz.prog Rows.deviceIdleRow.laid ((laidWorld os).forCall (fun _ _ => 0) ⟨#[], #[.slice Option.none 0 0, .int .u8 0, .slice Option.none 0 0], []⟩).memory :=
  laidMet_of_run' 8 (by kernel_rfl) (by kernel_rfl)
theorem reads (os : Os) {H : Type} (enc : TypeId × Value → H) : ∃ places, DataW.whole enc Tryz.prog ((laidWorld os).forCall (fun _ _ => 0) ⟨#[], #[.slice Option.none 0 0, .int .u8 0, .slice Option.none 0 0], []⟩).memory Tryz.f3.params.toList Rows.deviceIdleSpec.vars false (#[.slice Option.none 0 0, .int .u8 0, .slice Option.none 0 0] : Array Value).toList 8 = some ([.nil, .lit (.int .u8 0), .nil], [], places) :=
  ⟨[], by kernel_rfl⟩

set_option maxRecDepth 100000 in
theorem lifted (os : Os) (started : os.Started) (H : Type) (enc : TypeId × Value → H) (F : Stop.Interp) :
    ReturnsInHanded {} Tryz.checked os 3 .any ((OpenSpec.ofChange Rows.deviceIdleSpec).preRow enc Tryz.prog Tryz.f3 Rows.deviceIdleRow.domain false Rows.deviceIdleRow.laid) (((OpenSpec.ofChange Rows.deviceIdleSpec).at F).post enc Tryz.prog Tryz.f3 false true false false) := by
  obtain ⟨places, hx⟩ := reads os enc
  refine returnsInHanded_of_row (C := Tryz.checked) (s := OpenSpec.ofChange Rows.deviceIdleSpec) own started (by kernel_rfl) Tryz.func3
    (witness_row_at (enc := enc) (C := Tryz.checked) false (laidWorld os) #[.slice Option.none 0 0, .int .u8 0, .slice Option.none 0 0] rfl (by kernel_rfl) (by kernel_rfl) (by kernel_rfl)
      (OpenSpec.preRow_of_cond 8 hx (by kernel_rfl) (fun k hk => by cases hk) (by kernel_rfl) (laid_met os))) ?_
  intro W base args ds gs before hval hW _ _ hsz hL _ _
  exact contract H enc W base args ds gs before hval hW hsz hL

theorem said : Rows.DeviceIdleSaid :=
  OpenClaim.holds_of_cond 3 Tryz.f3 rfl rfl rfl rfl rfl rfl rfl ⟨rfl, rfl, rfl, rfl, rfl⟩ rfl rfl rfl rfl rfl (by kernel_rfl) Tryz.func3 (by kernel_rfl)
    (of_decide_eq_true (by kernel_rfl)) (by unfold Func.isWrapper; first | (rw [if_pos (by decide +kernel)]; kernel_rfl) | (rw [if_neg (by decide +kernel)]; exact ⟨rfl, rfl⟩))
    (fun os started H enc _ F => by rw [OpenClaim.pre_eq_preRow]; exact lifted os started H enc F)

theorem plain (f : FuncId) (fn : Func) (hf : Tryz.pinned.checked.prog.funcNamed "bosun/bosunlaw21.DeviceIdle" = some f) (hfn : Tryz.pinned.checked.prog.funcs[f]? = some fn) :
    false = Tryz.pinned.checked.prog.looks [] ∧ ∀ (j : Nat) t, fn.params[j]? = some t → Tryz.pinned.checked.prog.wantsStandIn t = false := by
  obtain rfl : f = 3 := Option.some.inj ((show Tryz.prog.funcNamed "bosun/bosunlaw21.DeviceIdle" = some 3 by kernel_rfl).symm.trans hf) |>.symm
  obtain rfl : fn = Tryz.f3 := (Option.some.inj (Tryz.func3.symm.trans hfn)).symm
  refine ⟨by kernel_rfl, fun j t ht => ?_⟩
  rw [Tryz.params3] at ht
  have hm : t ∈ [22, 5, 22] := by simpa using Array.mem_of_getElem? ht
  have hall : ∀ t ∈ [22, 5, 22], Tryz.prog.wantsStandIn t = false := by
    intro t ht
    simp only [List.mem_cons, List.not_mem_nil, or_false] at ht
    rcases ht with rfl | rfl | rfl <;> kernel_rfl
  exact hall t hm

theorem proved : Rows.DeviceIdleCardSaid :=
  Claim7.holds_tied_plain_at .later [] _ _ _ _ said (fun _ h => by cases h) (by kernel_rfl) (fun _ h => by cases h) deviceIdle_row_tie rfl ⟨rfl, rfl⟩ (by kernel_rfl) rfl plain (by kernel_rfl)
end lawDeviceIdle
end Go.Proofs.YtgmpmlneoiagdaaGreatDoor
