/- field: the chapter's examples. -/
import Derived.Test.YtgkofpfjbjnhfaaDoorFe7
namespace Go.Proofs.YtgkofpfjbjnhfaaDoor
namespace Fe
open Go.ChangeShapes Go.WideShapes Go.ChangeAt Go.RowKit
set_option linter.unusedVariables false
set_option linter.unusedSimpArgs false

theorem root1_4 : root1 4 = 39362322753415011913614158609977084030892133031847780325488042146247659569504 := by decide +kernel
theorem root1_2 : root1 2 = 19681161376707505956807079304988542015446066515923890162744021073123829784753 := by decide +kernel
theorem root2_4 : root2 4 = P5 - 2 := by unfold root2; rw [root1_4]; decide +kernel
theorem root2_2 : root2 2 = 19681161376707505956807079304988542015446066515923890162744021073123829784751 := by unfold root2; rw [root1_2]; decide +kernel
theorem rootV_4 : rootV 4 = .tuple #[.agg (q4 2), .bool true] := by
  unfold rootV
  rw [root2_4, if_pos (show (P5 - 2) * (P5 - 2) % P5 = 4 by decide +kernel), if_pos (show (P5 - 2) % 2 = 1 by decide +kernel), show (P5 - (P5 - 2)) % P5 = 2 by decide +kernel]
theorem rootV_2 : rootV 2 = .tuple #[.agg (q4 0), .bool false] := by
  unfold rootV
  rw [root2_2, if_neg (by decide +kernel)]
set_option maxRecDepth 100000 in
set_option maxHeartbeats 8000000 in
theorem lives_any (w : World) (hT : Tab5 w) :
    Calls Tryd.prog 12 #[] w fun e w' => e = .returned (.bool true) ∧ Below w.heap.size w w' := by
  have hu := Tryd.underlying25
  have hz4e := eZero
  have h0 := on_all w
  have s0 := Str.refl w
  try simp only [World.size_alloc] at h0
  have H1 := hide h0
  have S1 := hide s0
  clear h0 s0
  have Hm4 := hide (fun X => small_any 4 (by decide) X)
  have Hm2 := hide (fun X => small_any 2 (by decide) X)
  have Hm1 := hide (fun X => small_any 1 (by decide) X)
  have Hm3 := hide (fun X => small_any 3 (by decide) X)
  have hr4 := fun X h => root_any 4 (by decide) X h
  have hr2 := fun X h => root_any 2 (by decide) X h
  rw [rootV_4] at hr4
  rw [rootV_2] at hr2
  have Hr4 := hide hr4
  have Hr2 := hide hr2
  have HE2 := hide (fun X => eq_q4 X 9998 25 Tryd.underlying25 2 2 (by decide) (by decide))
  have HE3 := hide (fun X => eq_q4 X 9998 25 Tryd.underlying25 3 3 (by decide) (by decide))
  simp only [decide_true] at HE2 HE3
  have hadd := fun v X h1 h2 => add_any v [1, 2] (by simp only [List.mem_cons, List.not_mem_nil, or_false]; rintro x (rfl | rfl) <;> decide) (by decide) X h1 h2
  rw [show sumP [1, 2] = 3 by decide +kernel] at hadd
  have Hadd := hide hadd
  have Hbs := hide (fun X => run_bs2 1 2 X)
  have Hgd : Hid (Tryd.prog.eqGuardType Tryd.prog.depth 25 = false) := hide (by kernel_rfl)
  have hz := eZero
  clear hr4 hr2 hadd
  have HsF4 := hide (eInfo (4))
  have HoF4 := hide (eOne (4))
  have HzF4 := hide (eSize 0 (4))
  have HsF2 := hide (eInfo (2))
  have HoF2 := hide (eOne (2))
  have HzF2 := hide (eSize 0 (2))
  have HsF1 := hide (eInfo (1))
  have HoF1 := hide (eOne (1))
  have HzF1 := hide (eSize 0 (1))
  have HsF3 := hide (eInfo (3))
  have HoF3 := hide (eOne (3))
  have HzF3 := hide (eSize 0 (3))
  generalize hF4 : q4 (4) = F4 at *
  have HF4 := hide hF4
  clear hF4
  generalize hF2 : q4 (2) = F2 at *
  have HF2 := hide hF2
  clear hF2
  generalize hF1 : q4 (1) = F1 at *
  have HF1 := hide hF1
  clear hF1
  generalize hF3 : q4 (3) = F3 at *
  have HF3 := hide hF3
  clear hF3
  generalize hZ4 : q4 0 = Z4 at *
  have HZ4 := hide hZ4
  clear hZ4
  go_enter Tryd.func12, Tryd.ntmps12
  go_wp2_with fail
  refine (Hm4.out _).mono ?_
  rintro e w2 ⟨rfl, hB⟩
  have H2 := hide (H1.out.below hB)
  have S2 := hide (S1.out.trans (Str.below hB))
  clear hB H1 S1
  go_wp2_with fail
  refine (Hr4.out _ (hT.below (all_below H2.out S2.out))).mono ?_
  rintro e w3 ⟨rfl, hB⟩
  have H3 := hide (H2.out.below hB)
  have S3 := hide (S2.out.trans (Str.below hB))
  clear hB H2 S2
  have hN := H3.out.alloc (.cells Z4 25)
  have gN := on_blk_mul hN
  have hM := hN.setRow F2
  have gM := on_blk_mul hM
  have H4 := hide hM
  have S4 := hide ((S3.out.alloc (.cells Z4 25)).setRow w3.heap.size F2)
  clear hN hM
  go_wp2_with (first
    | (refine wpList_store_row rfl _ _ _ rfl (w3.heap.size) F2 rfl rfl _ _ gN HsF2.out HzF2.out HoF2.out ?_))
  generalize (w3.alloc (.cells Z4 25)).setRow w3.heap.size F2 = w4 at *
  clear gN gM H3 S3
  generalize w3.heap.size = p1 at *
  refine (Hm2.out _).mono ?_
  rintro e w5 ⟨rfl, hB⟩
  have H5 := hide (H4.out.below hB)
  have S5 := hide (S4.out.trans (Str.below hB))
  clear hB H4 S4
  go_wp2_with fail
  refine (Hr2.out _ (hT.below (all_below H5.out.right S5.out))).mono ?_
  rintro e w6 ⟨rfl, hB⟩
  have H6 := hide (H5.out.below hB)
  have S6 := hide (S5.out.trans (Str.below hB))
  clear hB H5 S5
  have HsZ4 := hide (eInfo 0)
  have HoZ4 := hide (eOne 0)
  rw [HZ4.out] at HsZ4 HoZ4
  have hN := H6.out.alloc (.cells Z4 25)
  have gN := on_blk_mul hN
  have hM := hN.setRow Z4
  have gM := on_blk_mul hM
  have H7 := hide hM
  have S7 := hide ((S6.out.alloc (.cells Z4 25)).setRow w6.heap.size Z4)
  clear hN hM
  go_wp2_with (first
    | (refine wpList_store_row rfl _ _ _ rfl (w6.heap.size) Z4 rfl rfl _ _ gN HsZ4.out rfl HoZ4.out ?_))
  generalize (w6.alloc (.cells Z4 25)).setRow w6.heap.size Z4 = w7 at *
  clear gN gM H6 S6
  have hT0 := hide (hT.below (all_below H7.out.right.right S7.out))
  go_wp2_with fail
  refine wp_region_vs [isV (.bool true), isV (.bool true), isV (.bool false), isV (.bool true), isV (.bool true), isV (.bool true), isV (.agg F2), isV (.agg F2), isV (.bool true), isV (.bool true), isV (.bool true), isV (.agg F1), isV (.agg F2), fun v X => IsEl X v [1, 2], isV (.agg F3), isV (.agg F3), isV (.bool true), isV (.bool true), isV (.bool true)]
    (by kernel_rfl) (by kernel_rfl) rfl ?keep ?todo ?rest
  case keep => exact ⟨Keep.isV _, Keep.isV _, Keep.isV _, Keep.isV _, Keep.isV _, Keep.isV _, Keep.isV _, Keep.isV _, Keep.isV _, Keep.isV _, Keep.isV _, Keep.isV _, Keep.isV _, fun _ _ _ h k => IsEl.below h k, Keep.isV _, Keep.isV _, Keep.isV _, Keep.isV _, Keep.isV _, trivial⟩
  case todo =>
    refine ⟨?_, ?_, ?_, ?_, ?_, ?_, ?_, ?_, ?_, ?_, ?_, ?_, ?_, ?_, ?_, ?_, ?_, ?_, ?_, trivial⟩
    · intro ev X hT hb hk hf
      have e0 : ev (.tmp 2) = .bool true := hk.1
      exact OpOk.move rfl e0 ⟨rfl, Stay.refl _⟩
    · intro ev X hT hb hk hf
      have e0 : ev (.tmp 15) = .bool true := hf.1
      exact OpOk.move rfl e0 ⟨rfl, Stay.refl _⟩
    · intro ev X hT hb hk hf
      refine ⟨true, hf.1, fun _ => ?_, fun h => (h rfl).elim⟩
      have e0 : ev (.tmp 4) = .bool false := hk.1
      exact OpOk.move rfl e0 ⟨rfl, Stay.refl _⟩
    · intro ev X hT hb hk hf
      refine ⟨true, hf.2.1, fun _ => ?_, fun h => (h rfl).elim⟩
      have e0 : ev (.tmp 17) = .bool false := hf.1
      exact OpOk.run (v := .bool true) (W' := X) (by simp [execOp, e0, hb.1, go_sem]) ⟨rfl, Stay.refl _⟩
    · intro ev X hT hb hk hf
      have e0 : ev (.tmp 16) = .bool true := hf.1
      have e1 : ev (.tmp 18) = .bool true := hf.2.1
      exact OpOk.run (v := .bool true) (W' := X) (by simp [execOp, e0, e1, hb, hb.1, hb.2.1, hb.2.2, go_sem]) ⟨rfl, Stay.refl _⟩
    · intro ev X hT hb hk hf
      have e0 : ev (.tmp 19) = .bool true := hf.1
      exact OpOk.move rfl e0 ⟨rfl, Stay.refl _⟩
    · intro ev X hT hb hk hf
      refine ⟨true, hf.1, fun _ => ?_, fun h => (h rfl).elim⟩
      have e0 : ev (.tmp 1) = .pointer (some ⟨p1, 0, Option.none⟩) := hk.1
      exact OpOk.load_row _ _ rfl _ e0 _ F2 (0, 0) _ (on_blk_mul (H7.out.below hT).right) hu rfl HsF2.out ⟨rfl, Stay.refl _⟩
    · intro ev X hT hb hk hf
      refine ⟨true, hf.1, fun _ => ?_, fun h => (h rfl).elim⟩
      refine OpOk.enters (f := 37) (args := #[lv 2]) (W' := X) (by simp [execOp, resolve, invoke, hb.1, hb.2.1, go_sem]) ((Hm2.out X).mono ?_)
      rintro e _ ⟨rfl, hB⟩
      exact ⟨_, rfl, rfl, hB⟩
    · intro ev X hT hb hk hf
      refine ⟨true, hf.2.2.1, fun _ => ?_, fun h => (h rfl).elim⟩
      have e0 : ev (.tmp 21) = .agg F2 := hf.1
      have e1 : ev (.tmp 22) = .agg F2 := hf.2.1
      exact OpOk.run (v := .bool true) (W' := X) (by
        unfold execOp
        simp only [e0, e1, Sem.run_bind, run_eqGuard_agg X _ _ _ _ _ _ Hgd.out, run_eql_struct, HE2.out X, Result.andThen_ok]
        rfl) ⟨rfl, Stay.refl _⟩
    · intro ev X hT hb hk hf
      have e0 : ev (.tmp 20) = .bool true := hf.1
      have e1 : ev (.tmp 23) = .bool true := hf.2.1
      exact OpOk.run (v := .bool true) (W' := X) (by simp [execOp, e0, e1, hb, hb.1, hb.2.1, hb.2.2, go_sem]) ⟨rfl, Stay.refl _⟩
    · intro ev X hT hb hk hf
      have e0 : ev (.tmp 24) = .bool true := hf.1
      exact OpOk.move rfl e0 ⟨rfl, Stay.refl _⟩
    · intro ev X hT hb hk hf
      refine ⟨true, hf.1, fun _ => ?_, fun h => (h rfl).elim⟩
      refine OpOk.enters (f := 37) (args := #[lv 1]) (W' := X) (by simp [execOp, resolve, invoke, hb.1, hb.2.1, go_sem]) ((Hm1.out X).mono ?_)
      rintro e _ ⟨rfl, hB⟩
      exact ⟨_, rfl, rfl, hB⟩
    · intro ev X hT hb hk hf
      refine ⟨true, hf.2.1, fun _ => ?_, fun h => (h rfl).elim⟩
      refine OpOk.enters (f := 37) (args := #[lv 2]) (W' := X) (by simp [execOp, resolve, invoke, hb.1, hb.2.1, go_sem]) ((Hm2.out X).mono ?_)
      rintro e _ ⟨rfl, hB⟩
      exact ⟨_, rfl, rfl, hB⟩
    · intro ev X hT hb hk hf
      refine ⟨true, hf.2.2.1, fun _ => ?_, fun h => (h rfl).elim⟩
      have e0 : ev (.tmp 26) = .agg F1 := hf.1
      have e1 : ev (.tmp 27) = .agg F2 := hf.2.1
      exact OpOk.run (v := .slice (some ⟨X.heap.size, 0, Option.none⟩) 2 2) (W' := X.alloc (.cells #[lv (limb 1 0), lv (limb 1 1), lv (limb 1 2), lv (limb 1 3), lv (limb 2 0), lv (limb 2 1), lv (limb 2 2), lv (limb 2 3)] 25)) (by simp [execOp, e0, e1, Hbs.out X]) ⟨IsEl.two (heap_alloc_new X _), (Below.refl X.heap.size X).alloc (Nat.le_refl _) _⟩
    · intro ev X hT hb hk hf
      refine ⟨true, hf.2.2.1, fun _ => ?_, fun h => (h rfl).elim⟩
      have e0 : IsEl X (ev (.tmp 28)) [1, 2] := hf.1
      refine OpOk.enters (f := 17) (args := #[ev (.tmp 28)]) (W' := X) (by simp [execOp, resolve, invoke, hb.1, hb.2.1, go_sem]) ((Hadd.out _ X e0 (hT0.out.below hT)).mono ?_)
      rintro e _ ⟨rfl, hB⟩
      exact ⟨_, rfl, rfl, hB⟩
    · intro ev X hT hb hk hf
      refine ⟨true, hf.2.1, fun _ => ?_, fun h => (h rfl).elim⟩
      refine OpOk.enters (f := 37) (args := #[lv 3]) (W' := X) (by simp [execOp, resolve, invoke, hb.1, hb.2.1, go_sem]) ((Hm3.out X).mono ?_)
      rintro e _ ⟨rfl, hB⟩
      exact ⟨_, rfl, rfl, hB⟩
    · intro ev X hT hb hk hf
      refine ⟨true, hf.2.2.1, fun _ => ?_, fun h => (h rfl).elim⟩
      have e0 : ev (.tmp 29) = .agg F3 := hf.1
      have e1 : ev (.tmp 30) = .agg F3 := hf.2.1
      exact OpOk.run (v := .bool true) (W' := X) (by
        unfold execOp
        simp only [e0, e1, Sem.run_bind, run_eqGuard_agg X _ _ _ _ _ _ Hgd.out, run_eql_struct, HE3.out X, Result.andThen_ok]
        rfl) ⟨rfl, Stay.refl _⟩
    · intro ev X hT hb hk hf
      have e0 : ev (.tmp 25) = .bool true := hf.1
      have e1 : ev (.tmp 31) = .bool true := hf.2.1
      exact OpOk.run (v := .bool true) (W' := X) (by simp [execOp, e0, e1, hb, hb.1, hb.2.1, hb.2.2, go_sem]) ⟨rfl, Stay.refl _⟩
    · intro ev X hT hb hk hf
      have e0 : ev (.tmp 32) = .bool true := hf.1
      exact OpOk.assign rfl e0 ⟨rfl, Stay.refl _⟩
  case rest =>
    intro X hX
    rintro _ - _ - _ - _ - _ - _ - _ - _ - _ - _ - _ - _ - _ - _ - _ - _ - _ - _ - _ rfl
    have HB := hide (all_below (H7.out.below hX).right.right (S7.out.trans (Str.below hX)))
    clear hX
    go_wp2
    refine Rest.done ?_
    go_wp2_with fail
    go_ret
    exact ⟨rfl, HB.out⟩
end Fe
end Go.Proofs.YtgkofpfjbjnhfaaDoor
