/- The law ScalarSums: sums and products of any numbers, and their bits. -/
import Derived.Test.YtgkofpfjbjnhfaaDoorScLaw
import Derived.Test.YtgkofpfjbjnhfaaDoorCards
import Derived.Test.YtgkofpfjbjnhfaaDoorTie
import Derived.Deep.DeepHandedRow
namespace Go.Proofs.YtgkofpfjbjnhfaaDoor
open Go.ChangeShapes Go.WideShapes Go.ChangeAt Go.RowKit
set_option linter.unusedVariables false
set_option linter.unusedSimpArgs false

theorem bool_same (b : Bool) : (b == b) = true := by simp
set_option maxRecDepth 100000 in
set_option maxHeartbeats 8000000 in
theorem walk_ScalarSums (w : World) (hL : laidMetH Tryd.prog Rows.scalarSumsRow.laid w) (a : Nat) (ha : a < 18446744073709551616 ^ 4) (b : Nat) (hb : b < 18446744073709551616 ^ 4) (i : Int) (h1 : -9223372036854775808 ≤ i) (h2 : i ≤ 9223372036854775807) :
    Calls Tryd.prog 8 #[.agg (q4 a), .agg (q4 b), .int .i64 i] w fun e w' => e = .returned (.bool true) ∧ Below w.heap.size w w' := by
  have hO : TabO w := tabO_of_laid hL
  clear hL
  have hu := Tryd.underlying23
  have hun := Tryd.underlying58
  have hz : ∀ w, (zeroValue 23).run Tryd.prog w = .ok (.agg (q4 0)) w := fun w => by rw [qz4]; kernel_rfl
  have Hs : Hid (∀ n, (Tryd.prog.info? 23).map (·.size) = some (q4 n).size) := hide fun n => by rw [q4_size]; kernel_rfl
  have Hgd : Hid (Tryd.prog.eqGuardType Tryd.prog.depth 58 = false) := hide (by kernel_rfl)
  have h0 := ((on_all w).alloc (.cells (q4 a) 23)).alloc (.cells (q4 b) 23)
  have hs0 := ((Str.refl w).alloc (.cells (q4 a) 23)).alloc (.cells (q4 b) 23)
  simp only [World.size_alloc] at h0
  have H0 := hide h0
  have HS0 := hide hs0
  have HO := hide hO
  have HB0 := hide (all_below h0.right.right hs0)
  have Hna := hide (fun X => num_any a ha X)
  have Hnb := hide (fun X => num_any b hb X)
  have HsA := hide (Hs.out a)
  have HsB := hide (Hs.out b)
  have hx : a % O6 < O6 := Nat.mod_lt _ (by decide)
  have hy : b % O6 < O6 := Nat.mod_lt _ (by decide)
  have hO4 : O6 < 18446744073709551616 ^ 4 := by decide
  have Hadd := hide (fun X h => add_any (a % O6) (b % O6) (by omega) (by omega) X h)
  have Hmul := hide (fun X h => mul_any (a % O6) (b % O6) (by omega) (by omega) X h)
  have HaddL := hide (fun X => addL_any (a % O6) (b % O6) hx hy X)
  have HmulL := hide (fun X => mulL_any (a % O6) (b % O6) hx (by omega) X)
  have Hbit := hide (fun X => bit_any a i h1 h2 X)
  have hs1 : (a % O6 + b % O6) % O6 < 18446744073709551616 ^ 4 := by have := Nat.mod_lt (a % O6 + b % O6) (show 0 < O6 by decide); omega
  have hs2 : (a % O6 * (b % O6)) % O6 < 18446744073709551616 ^ 4 := by have := Nat.mod_lt (a % O6 * (b % O6)) (show 0 < O6 by decide); omega
  have HE1 := hide (fun X => eq_q4 X 9998 58 hun _ _ hs1 hs1)
  have HE2 := hide (fun X => eq_q4 X 9998 58 hun _ _ hs2 hs2)
  have HsX := hide (Hs.out (a % O6))
  have HsY := hide (Hs.out (b % O6))
  have HoX : Hid ((q4 (a % O6)).all (·.oneCell') = true) := hide (lvs_one _)
  have HoY : Hid ((q4 (b % O6)).all (·.oneCell') = true) := hide (lvs_one _)
  have HzX : Hid ((q4 0).size = (q4 (a % O6)).size) := hide (by rw [q4_size, q4_size])
  have HzY : Hid ((q4 0).size = (q4 (b % O6)).size) := hide (by rw [q4_size, q4_size])
  have Hin : Hid (∀ k : Nat, i = (k : Int) → k < 256 → ((q4 a)[k / 64]? = some (lv (limb a (k / 64)))) ∧ (bits .and .u64 (((limb a (k / 64) : Nat) : Int) / 2 ^ (k % 64)) 1 == 1) = bitOf a i) := hide fun k hk hk2 => by
    refine ⟨lvs_get _ _ _ (qs_get 4 a _ (by omega)), ?_⟩
    have hT := testBit_limb a k
    have hb := bit_and (limb a (k / 64)) (k % 64) (limb_lt _ _)
    rw [hT] at hb
    have e3 : ((limb a (k / 64) : Nat) : Int) / 2 ^ (k % 64) = ((limb a (k / 64) / 2 ^ (k % 64) : Nat) : Int) := by rw [Int.natCast_ediv, Int.natCast_pow]; rfl
    rw [← e3] at hb
    have ht : (((if a.testBit k = true then 1 else 0 : Nat) : Int) == 1) = a.testBit k := by cases a.testBit k <;> rfl
    rw [← hb] at ht
    rw [hk, bitOf_in a k hk2]
    exact ht
  have Hof := hide (fun h => bitOf_out a i h)
  clear h0 hs0 hO ha hb hx hy hO4 hs1 hs2
  generalize hbt : bitOf a i = bt at *
  clear hbt
  generalize hA : q4 a = A4 at *
  generalize hB : q4 b = B4 at *
  generalize hZ : q4 0 = Z4 at *
  generalize q4 (a % O6) = XA at *
  generalize q4 (b % O6) = YB at *
  generalize q4 ((a % O6 + b % O6) % O6) = SU at *
  generalize q4 (a % O6 * (b % O6) % O6) = PR at *
  clear hA hB hZ
  go_enter Tryd.func8, Tryd.ntmps8
  go_wp2_with fail
  generalize (w.alloc (.cells A4 23)).alloc (.cells B4 23) = w1 at *
  refine (lives06_any _ (HO.out.below HB0.out)).mono ?_
  rintro e w2 ⟨rfl, hB2⟩
  have H2 := hide (H0.out.below hB2)
  have HS2 := hide (HS0.out.trans (Str.below hB2))
  clear hB2 H0 HS0 HB0
  go_wp2_with fail
  refine Multi2.wp_region_multi [4, 5, 6, 7] [4, 5] [6, 7] [isV (.agg A4), isV (.agg XA), isV (.agg B4), isV (.agg YB), (fun _ _ => True), (fun _ _ => True), (fun _ _ => True), (fun _ _ => True)]
    (by kernel_rfl) (by kernel_rfl) (by kernel_rfl) ⟨rfl, rfl, trivial⟩ (fun f s X => (Multi2.opt (f 4) (Multi2.bv (s 4) (.cells (if f 6 = true then XA else Z4) 23 (0, 0))) * (Multi2.opt (f 5) (Multi2.bv (s 5) (.cells (if f 7 = true then YB else Z4) 23 (0, 0))) * (blk (w.heap.size + 1) (.cells B4 23 (0, 0)) * (blk w.heap.size (.cells A4 23 (0, 0)) * all w)))).on X ∧ Str w X) (fun _ => ⟨on_emp_mul.2 (on_emp_mul.2 (SP.on.drew H2.out)), Str.drew HS2.out⟩) (fun f s a b h st => ⟨h.1.below st, h.2.trans (Str.below st)⟩) (fun f g s t X h h9 hI => by
      have e4 := h 4 rfl
      have e5 := h 5 rfl
      have e6 := h 6 rfl
      have e7 := h 7 rfl
      have i4 := h9 4 rfl
      have i5 := h9 5 rfl
      rw [← e4, ← e5, ← e6, ← e7]
      refine ⟨?_, hI.2⟩
      have := hI.1
      revert this i4 i5
      cases f 4 <;> cases f 5 <;> intro i4 i5 <;> simp_all [Multi2.opt]) ?keep ?todo ?rest (by decide) (by decide)
  case keep => exact ⟨Keep.isV _, Keep.isV _, Keep.isV _, Keep.isV _, fun _ _ _ h _ => h, fun _ _ _ h _ => h, fun _ _ _ h _ => h, fun _ _ _ h _ => h, trivial⟩
  case todo =>
    refine ⟨?_, ?_, ?_, ?_, ?_, ?_, ?_, ?_, trivial⟩
    · intro f hf0 hw hn ev X hT hb hk hf
      have e0 : ev (.tmp 3) = .pointer (some ⟨w.heap.size, 0, Option.none⟩) := by have h9 := hk.1; rw [if_pos (by kernel_rfl)] at h9; exact h9
      exact OpOk.load_row _ _ rfl _ e0 _ A4 (0, 0) _ (on_blk_mul hT.1.right.right.right) hu rfl HsA.out (Multi2.ended_stay rfl rfl (Stay.refl _))
    · intro f hf0 hw hn ev X hT hb hk hf
      have e0 : ev (.tmp 12) = .agg A4 := hf.1
      refine OpOk.enters (f := 39) (args := #[.agg A4]) (W' := X) (by simp [execOp, resolve, invoke, e0, hb.1, hb.2.1, go_sem]) ((Hna.out X).mono ?_)
      rintro e _ ⟨rfl, hB⟩
      exact ⟨_, rfl, Multi2.ended_stay rfl rfl hB⟩
    · intro f hf0 hw hn ev X hT hb hk hf
      have e0 : ev (.tmp 4) = .pointer (some ⟨w.heap.size + 1, 0, Option.none⟩) := by have h9 := hk.1; rw [if_pos (by kernel_rfl)] at h9; exact h9
      exact OpOk.load_row _ _ rfl _ e0 _ B4 (0, 0) _ (on_blk_mul hT.1.right.right) hu rfl HsB.out (Multi2.ended_stay rfl rfl (Stay.refl _))
    · intro f hf0 hw hn ev X hT hb hk hf
      have e0 : ev (.tmp 14) = .agg B4 := hf.1
      refine OpOk.enters (f := 39) (args := #[.agg B4]) (W' := X) (by simp [execOp, resolve, invoke, e0, hb.1, hb.2.1, go_sem]) ((Hnb.out X).mono ?_)
      rintro e _ ⟨rfl, hB⟩
      exact ⟨_, rfl, Multi2.ended_stay rfl rfl hB⟩
    · intro f hf0 hw hn ev X hT hb hk hf
      have f6 : f 6 = false := hn 6 (by kernel_rfl)
      have hX := hT.1
      rw [hf0, Multi2.opt_false] at hX
      have hX2 := (on_emp_mul.1 hX).alloc (.cells Z4 23 (0, 0))
      exact OpOk.run (v := .pointer (some ⟨X.heap.size, 0, Option.none⟩)) (W' := X.alloc (.cells Z4 23)) (by simp [execOp, hz, go_sem]) (Multi2.ended_turn rfl trivial ⟨by
        show (Multi2.opt true (Multi2.bv (.pointer (some ⟨X.heap.size, 0, Option.none⟩)) (.cells (if f 6 = true then XA else Z4) 23 (0, 0))) * _).on _
        rw [f6]
        exact Multi2.blk_bv hX2, hT.2.alloc _⟩ (Multi2.free_keep (by
        intro P hP
        simp only [List.mem_cons, List.not_mem_nil, or_false] at hP
        rcases hP with rfl | rfl | rfl | rfl | rfl | rfl | rfl | rfl <;> exact fun _ _ _ h => h) _ _))
    · intro f hf0 hw hn ev X hT hb hk hf
      have f7 : f 7 = false := hn 7 (by kernel_rfl)
      have hX := hT.1
      rw [hf0, Multi2.opt_false, SP.mul_left_comm] at hX
      have hX2 := (on_emp_mul.1 hX).alloc (.cells Z4 23 (0, 0))
      exact OpOk.run (v := .pointer (some ⟨X.heap.size, 0, Option.none⟩)) (W' := X.alloc (.cells Z4 23)) (by simp [execOp, hz, go_sem]) (Multi2.ended_turn rfl trivial ⟨by
        show (_ * (Multi2.opt true (Multi2.bv (.pointer (some ⟨X.heap.size, 0, Option.none⟩)) (.cells (if f 7 = true then YB else Z4) 23 (0, 0))) * _)).on _
        rw [f7, SP.mul_left_comm]
        exact Multi2.blk_bv hX2, hT.2.alloc _⟩ (Multi2.free_keep (by
        intro P hP
        simp only [List.mem_cons, List.not_mem_nil, or_false] at hP
        rcases hP with rfl | rfl | rfl | rfl | rfl | rfl | rfl | rfl <;> exact fun _ _ _ h => h) _ _))
    · intro f hf0 hw hn ev X hT hb hk hf
      have e0 := hf.1
      have e1 : ev (.tmp 13) = .agg XA := hf.2.1
      have f4 : f 4 = true := hw 4 (by kernel_rfl)
      have hX := hT.1
      rw [f4, hf0] at hX
      have hX' : (Multi2.bv (ev (.tmp 7)) (.cells Z4 23 (0, 0)) * _).on X := hX
      obtain ⟨g, hg, hX2⟩ := Multi2.bv_blk hX'
      exact OpOk.store_agg _ _ _ rfl g XA hg e1 _ Z4 hX2 HsX.out HzX.out HoX.out (fun h3 => Multi2.ended_turn rfl trivial ⟨by
        show (Multi2.opt (f 4) (Multi2.bv (ev (.tmp 7)) (.cells XA 23 (0, 0))) * _).on _
        rw [f4, hg]
        exact Multi2.blk_bv h3, hT.2.setRow _ _⟩ (Multi2.free_keep (by
        intro P hP
        simp only [List.mem_cons, List.not_mem_nil, or_false] at hP
        rcases hP with rfl | rfl | rfl | rfl | rfl | rfl | rfl | rfl <;> exact fun _ _ _ h => h) _ _))
    · intro f hf0 hw hn ev X hT hb hk hf
      have e0 := hf.1
      have e1 : ev (.tmp 15) = .agg YB := hf.2.1
      have f5 : f 5 = true := hw 5 (by kernel_rfl)
      have hX := hT.1
      rw [f5, hf0, SP.mul_left_comm] at hX
      have hX' : (Multi2.bv (ev (.tmp 8)) (.cells Z4 23 (0, 0)) * _).on X := hX
      obtain ⟨g, hg, hX2⟩ := Multi2.bv_blk hX'
      exact OpOk.store_agg _ _ _ rfl g YB hg e1 _ Z4 hX2 HsY.out HzY.out HoY.out (fun h3 => Multi2.ended_turn rfl trivial ⟨by
        show (_ * (Multi2.opt (f 5) (Multi2.bv (ev (.tmp 8)) (.cells YB 23 (0, 0))) * _)).on _
        rw [f5, hg, SP.mul_left_comm]
        exact Multi2.blk_bv h3, hT.2.setRow _ _⟩ (Multi2.free_keep (by
        intro P hP
        simp only [List.mem_cons, List.not_mem_nil, or_false] at hP
        rcases hP with rfl | rfl | rfl | rfl | rfl | rfl | rfl | rfl <;> exact fun _ _ _ h => h) _ _))
  case rest =>
    intro X s hI
    rintro _ ⟨-, rfl⟩ _ ⟨-, rfl⟩ _ ⟨-, rfl⟩ _ ⟨-, rfl⟩ v7 ⟨h7, -⟩ v8 ⟨h8, -⟩ _ - _ -
    replace h7 := h7 rfl
    replace h8 := h8 rfl
    obtain ⟨hX, hSX⟩ := hI
    have hX' : (Multi2.bv (s 4) (.cells XA 23 (0, 0)) * (Multi2.bv (s 5) (.cells YB 23 (0, 0)) * (blk (w.heap.size + 1) (.cells B4 23 (0, 0)) * (blk w.heap.size (.cells A4 23 (0, 0)) * all w)))).on X := hX
    rw [← h7, ← h8] at hX'
    obtain ⟨g7, rfl, hX2⟩ := Multi2.bv_blk hX'
    rw [SP.mul_left_comm] at hX2
    obtain ⟨g8, rfl, hX3⟩ := Multi2.bv_blk hX2
    have H3 := hide hX3
    have HS3 := hide hSX
    clear hX hX' hX2 hX3 h7 h8 hSX H2 HS2
    go_wp2
    refine Rest.done ?_
    clear s
    by_cases hr : 0 ≤ i ∧ i < 256
    · obtain ⟨hr0, hr1⟩ := hr
      have c1 : ¬ i > 255 := by omega
      have hi0 : 0 ≤ i := hr0
      obtain ⟨k, hk⟩ : ∃ k : Nat, i = (k : Int) := ⟨i.toNat, by omega⟩
      have hk2 : k < 256 := by omega
      obtain ⟨hc0, hbv⟩ := Hin.out k hk hk2
      have hc := (cell_of_row X w.heap.size (k / 64) _ _ _ (on_blk_mul H3.out.right.right.right)).trans hc0
      have Hbv := hide hbv
      have Hk := hide hk
      have d1 : i.tdiv 64 = ((k / 64 : Nat) : Int) := by rw [hk, Int.tdiv_eq_ediv_of_nonneg (by omega)]; omega
      have d2 : i.tmod 64 = ((k % 64 : Nat) : Int) := by rw [hk, Int.tmod_eq_emod_of_nonneg (by omega)]; omega
      have hk64 : ((k / 64 : Nat) : Int) < 4 := by omega
      clear hbv hk hc0
      go_wp2_with fail
      rw [Hbv.out]
      refine wp_region_vs [isV (.agg XA), isV (.agg YB), isV (.agg SU), isV (.agg XA), isV (.agg YB), isV (.agg SU), isV (.bool true), isV (.bool true), isV (.agg XA), isV (.agg YB), isV (.agg PR), isV (.agg XA), isV (.agg YB), isV (.agg PR), isV (.bool true), isV (.bool true), isV (.bool true), isV (.agg A4), isV (.int .i64 i), isV (.bool bt), isV (.bool bt), isV (.bool true), isV (.bool true), isV (.bool true)]
        (by kernel_rfl) (by kernel_rfl) rfl ?keep ?todo ?rest
      case keep => exact ⟨Keep.isV _, Keep.isV _, Keep.isV _, Keep.isV _, Keep.isV _, Keep.isV _, Keep.isV _, Keep.isV _, Keep.isV _, Keep.isV _, Keep.isV _, Keep.isV _, Keep.isV _, Keep.isV _, Keep.isV _, Keep.isV _, Keep.isV _, Keep.isV _, Keep.isV _, Keep.isV _, Keep.isV _, Keep.isV _, Keep.isV _, Keep.isV _, trivial⟩
      case todo =>
        refine ⟨?_, ?_, ?_, ?_, ?_, ?_, ?_, ?_, ?_, ?_, ?_, ?_, ?_, ?_, ?_, ?_, ?_, ?_, ?_, ?_, ?_, ?_, ?_, ?_, trivial⟩
        · intro ev X hT hb hk hf
          have e0 : ev (.tmp 7) = .pointer (some ⟨g7, 0, Option.none⟩) := hk.1
          exact OpOk.load_row _ _ rfl _ e0 _ XA (0, 0) _ (on_blk_mul (H3.out.below hT).right) hu rfl HsX.out ⟨rfl, Stay.refl _⟩
        · intro ev X hT hb hk hf
          have e0 : ev (.tmp 8) = .pointer (some ⟨g8, 0, Option.none⟩) := hk.1
          exact OpOk.load_row _ _ rfl _ e0 _ YB (0, 0) _ (on_blk_mul (H3.out.below hT)) hu rfl HsY.out ⟨rfl, Stay.refl _⟩
        · intro ev X hT hb hk hf
          have e0 : ev (.tmp 37) = .agg XA := hf.1
          have e1 : ev (.tmp 38) = .agg YB := hf.2.1
          refine OpOk.enters (f := 40) (args := #[.agg XA, .agg YB]) (W' := X) (by simp [execOp, resolve, invoke, e0, e1, hb.1, hb.2.1, go_sem]) ((Hadd.out X (HO.out.below (all_below (H3.out.below hT).right.right.right.right (HS3.out.trans (Str.below hT))))).mono ?_)
          rintro e _ ⟨rfl, hB⟩
          exact ⟨_, rfl, rfl, hB⟩
        · intro ev X hT hb hk hf
          have e0 : ev (.tmp 7) = .pointer (some ⟨g7, 0, Option.none⟩) := hk.1
          exact OpOk.load_row _ _ rfl _ e0 _ XA (0, 0) _ (on_blk_mul (H3.out.below hT).right) hu rfl HsX.out ⟨rfl, Stay.refl _⟩
        · intro ev X hT hb hk hf
          have e0 : ev (.tmp 8) = .pointer (some ⟨g8, 0, Option.none⟩) := hk.1
          exact OpOk.load_row _ _ rfl _ e0 _ YB (0, 0) _ (on_blk_mul (H3.out.below hT)) hu rfl HsY.out ⟨rfl, Stay.refl _⟩
        · intro ev X hT hb hk hf
          have e0 : ev (.tmp 40) = .agg XA := hf.1
          have e1 : ev (.tmp 41) = .agg YB := hf.2.1
          refine OpOk.enters (f := 41) (args := #[.agg XA, .agg YB]) (W' := X) (by simp [execOp, resolve, invoke, e0, e1, hb.1, hb.2.1, go_sem]) ((HaddL.out X).mono ?_)
          rintro e _ ⟨rfl, hB⟩
          exact ⟨_, rfl, rfl, hB⟩
        · intro ev X hT hb hk hf
          have e0 : ev (.tmp 39) = .agg SU := hf.1
          have e1 : ev (.tmp 42) = .agg SU := hf.2.1
          exact OpOk.run (v := .bool true) (W' := X) (by
            unfold execOp
            simp only [e0, e1, Sem.run_bind, run_eqGuard_agg X _ _ _ _ _ _ Hgd.out, run_eql_struct, HE1.out X, Result.andThen_ok]
            simp) ⟨rfl, Stay.refl _⟩
        · intro ev X hT hb hk hf
          have e0 : ev (.tmp 43) = .bool true := hf.1
          exact OpOk.move rfl e0 ⟨rfl, Stay.refl _⟩
        · intro ev X hT hb hk hf
          refine ⟨true, hf.1, fun _ => ?_, fun h => (h rfl).elim⟩
          have e0 : ev (.tmp 7) = .pointer (some ⟨g7, 0, Option.none⟩) := hk.1
          exact OpOk.load_row _ _ rfl _ e0 _ XA (0, 0) _ (on_blk_mul (H3.out.below hT).right) hu rfl HsX.out ⟨rfl, Stay.refl _⟩
        · intro ev X hT hb hk hf
          refine ⟨true, hf.1, fun _ => ?_, fun h => (h rfl).elim⟩
          have e0 : ev (.tmp 8) = .pointer (some ⟨g8, 0, Option.none⟩) := hk.1
          exact OpOk.load_row _ _ rfl _ e0 _ YB (0, 0) _ (on_blk_mul (H3.out.below hT)) hu rfl HsY.out ⟨rfl, Stay.refl _⟩
        · intro ev X hT hb hk hf
          refine ⟨true, hf.2.2.1, fun _ => ?_, fun h => (h rfl).elim⟩
          have e0 : ev (.tmp 45) = .agg XA := hf.1
          have e1 : ev (.tmp 46) = .agg YB := hf.2.1
          refine OpOk.enters (f := 42) (args := #[.agg XA, .agg YB]) (W' := X) (by simp [execOp, resolve, invoke, e0, e1, hb.1, hb.2.1, go_sem]) ((Hmul.out X (HO.out.below (all_below (H3.out.below hT).right.right.right.right (HS3.out.trans (Str.below hT))))).mono ?_)
          rintro e _ ⟨rfl, hB⟩
          exact ⟨_, rfl, rfl, hB⟩
        · intro ev X hT hb hk hf
          refine ⟨true, hf.1, fun _ => ?_, fun h => (h rfl).elim⟩
          have e0 : ev (.tmp 7) = .pointer (some ⟨g7, 0, Option.none⟩) := hk.1
          exact OpOk.load_row _ _ rfl _ e0 _ XA (0, 0) _ (on_blk_mul (H3.out.below hT).right) hu rfl HsX.out ⟨rfl, Stay.refl _⟩
        · intro ev X hT hb hk hf
          refine ⟨true, hf.1, fun _ => ?_, fun h => (h rfl).elim⟩
          have e0 : ev (.tmp 8) = .pointer (some ⟨g8, 0, Option.none⟩) := hk.1
          exact OpOk.load_row _ _ rfl _ e0 _ YB (0, 0) _ (on_blk_mul (H3.out.below hT)) hu rfl HsY.out ⟨rfl, Stay.refl _⟩
        · intro ev X hT hb hk hf
          refine ⟨true, hf.2.2.2.1, fun _ => ?_, fun h => (h rfl).elim⟩
          have e0 : ev (.tmp 48) = .agg XA := hf.1
          have e1 : ev (.tmp 49) = .agg YB := hf.2.1
          refine OpOk.enters (f := 43) (args := #[.agg XA, .agg YB]) (W' := X) (by simp [execOp, resolve, invoke, e0, e1, hb.1, hb.2.1, go_sem]) ((HmulL.out X).mono ?_)
          rintro e _ ⟨rfl, hB⟩
          exact ⟨_, rfl, rfl, hB⟩
        · intro ev X hT hb hk hf
          refine ⟨true, hf.2.2.1, fun _ => ?_, fun h => (h rfl).elim⟩
          have e0 : ev (.tmp 47) = .agg PR := hf.1
          have e1 : ev (.tmp 50) = .agg PR := hf.2.1
          exact OpOk.run (v := .bool true) (W' := X) (by
            unfold execOp
            simp only [e0, e1, Sem.run_bind, run_eqGuard_agg X _ _ _ _ _ _ Hgd.out, run_eql_struct, HE2.out X, Result.andThen_ok]
            simp) ⟨rfl, Stay.refl _⟩
        · intro ev X hT hb hk hf
          have e0 : ev (.tmp 44) = .bool true := hf.1
          have e1 : ev (.tmp 51) = .bool true := hf.2.1
          exact OpOk.run (v := .bool true) (W' := X) (by simp [execOp, e0, e1, hb, hb.1, hb.2.1, hb.2.2, go_sem]) ⟨rfl, Stay.refl _⟩
        · intro ev X hT hb hk hf
          have e0 : ev (.tmp 52) = .bool true := hf.1
          exact OpOk.move rfl e0 ⟨rfl, Stay.refl _⟩
        · intro ev X hT hb hk hf
          refine ⟨true, hf.1, fun _ => ?_, fun h => (h rfl).elim⟩
          have e0 : ev (.tmp 3) = .pointer (some ⟨w.heap.size, 0, Option.none⟩) := hk.1
          exact OpOk.load_row _ _ rfl _ e0 _ A4 (0, 0) _ (on_blk_mul (H3.out.below hT).right.right.right) hu rfl HsA.out ⟨rfl, Stay.refl _⟩
        · intro ev X hT hb hk hf
          refine ⟨true, hf.1, fun _ => ?_, fun h => (h rfl).elim⟩
          have e0 : ev (.tmp 2) = .int .i64 i := hk.1
          exact OpOk.move rfl e0 ⟨rfl, Stay.refl _⟩
        · intro ev X hT hb hk hf
          refine ⟨true, hf.2.2.1, fun _ => ?_, fun h => (h rfl).elim⟩
          have e0 : ev (.tmp 54) = .agg A4 := hf.1
          have e1 : ev (.tmp 55) = .int .i64 i := hf.2.1
          refine OpOk.enters (f := 44) (args := #[.agg A4, .int .i64 i]) (W' := X) (by simp [execOp, resolve, invoke, e0, e1, hb.1, hb.2.1, go_sem]) ((Hbit.out X).mono ?_)
          rintro e _ ⟨rfl, hB⟩
          exact ⟨_, rfl, rfl, hB⟩
        · intro ev X hT hb hk hf
          refine ⟨true, hf.1, fun _ => ?_, fun h => (h rfl).elim⟩
          have e0 : ev (.tmp 9) = .bool bt := hk.1
          exact OpOk.move rfl e0 ⟨rfl, Stay.refl _⟩
        · intro ev X hT hb hk hf
          refine ⟨true, hf.2.2.1, fun _ => ?_, fun h => (h rfl).elim⟩
          have e0 : ev (.tmp 56) = .bool bt := hf.1
          have e1 : ev (.tmp 57) = .bool bt := hf.2.1
          exact OpOk.run (v := .bool true) (W' := X) (by simp [execOp, e0, e1, go_sem]) ⟨rfl, Stay.refl _⟩
        · intro ev X hT hb hk hf
          have e0 : ev (.tmp 53) = .bool true := hf.1
          have e1 : ev (.tmp 58) = .bool true := hf.2.1
          exact OpOk.run (v := .bool true) (W' := X) (by simp [execOp, e0, e1, hb, hb.1, hb.2.1, hb.2.2, go_sem]) ⟨rfl, Stay.refl _⟩
        · intro ev X hT hb hk hf
          have e0 : ev (.tmp 59) = .bool true := hf.1
          exact OpOk.assign rfl e0 ⟨rfl, Stay.refl _⟩
      case rest =>
        intro X5 hT5
        rintro _ - _ - _ - _ - _ - _ - _ - _ - _ - _ - _ - _ - _ - _ - _ - _ - _ - _ - _ - _ - _ - _ - _ - _ rfl
        have HB5 := hide (all_below (H3.out.below hT5).right.right.right.right (HS3.out.trans (Str.below hT5)))
        clear hT5
        go_wp2
        refine Rest.done ?_
        go_wp2_with fail
        go_ret
        exact ⟨rfl, HB5.out⟩
    · by_cases hn : 0 ≤ i
      · have hi3 : ¬ i < 256 := fun h => hr ⟨hn, h⟩
        have hbf := Hof.out hr
        subst hbf
        clear hr
        go_wp2_with fail
        refine wp_region_vs [isV (.agg XA), isV (.agg YB), isV (.agg SU), isV (.agg XA), isV (.agg YB), isV (.agg SU), isV (.bool true), isV (.bool true), isV (.agg XA), isV (.agg YB), isV (.agg PR), isV (.agg XA), isV (.agg YB), isV (.agg PR), isV (.bool true), isV (.bool true), isV (.bool true), isV (.agg A4), isV (.int .i64 i), isV (.bool false), isV (.bool false), isV (.bool true), isV (.bool true), isV (.bool true)]
          (by kernel_rfl) (by kernel_rfl) rfl ?keep ?todo ?rest
        case keep => exact ⟨Keep.isV _, Keep.isV _, Keep.isV _, Keep.isV _, Keep.isV _, Keep.isV _, Keep.isV _, Keep.isV _, Keep.isV _, Keep.isV _, Keep.isV _, Keep.isV _, Keep.isV _, Keep.isV _, Keep.isV _, Keep.isV _, Keep.isV _, Keep.isV _, Keep.isV _, Keep.isV _, Keep.isV _, Keep.isV _, Keep.isV _, Keep.isV _, trivial⟩
        case todo =>
          refine ⟨?_, ?_, ?_, ?_, ?_, ?_, ?_, ?_, ?_, ?_, ?_, ?_, ?_, ?_, ?_, ?_, ?_, ?_, ?_, ?_, ?_, ?_, ?_, ?_, trivial⟩
          · intro ev X hT hb hk hf
            have e0 : ev (.tmp 7) = .pointer (some ⟨g7, 0, Option.none⟩) := hk.1
            exact OpOk.load_row _ _ rfl _ e0 _ XA (0, 0) _ (on_blk_mul (H3.out.below hT).right) hu rfl HsX.out ⟨rfl, Stay.refl _⟩
          · intro ev X hT hb hk hf
            have e0 : ev (.tmp 8) = .pointer (some ⟨g8, 0, Option.none⟩) := hk.1
            exact OpOk.load_row _ _ rfl _ e0 _ YB (0, 0) _ (on_blk_mul (H3.out.below hT)) hu rfl HsY.out ⟨rfl, Stay.refl _⟩
          · intro ev X hT hb hk hf
            have e0 : ev (.tmp 37) = .agg XA := hf.1
            have e1 : ev (.tmp 38) = .agg YB := hf.2.1
            refine OpOk.enters (f := 40) (args := #[.agg XA, .agg YB]) (W' := X) (by simp [execOp, resolve, invoke, e0, e1, hb.1, hb.2.1, go_sem]) ((Hadd.out X (HO.out.below (all_below (H3.out.below hT).right.right.right.right (HS3.out.trans (Str.below hT))))).mono ?_)
            rintro e _ ⟨rfl, hB⟩
            exact ⟨_, rfl, rfl, hB⟩
          · intro ev X hT hb hk hf
            have e0 : ev (.tmp 7) = .pointer (some ⟨g7, 0, Option.none⟩) := hk.1
            exact OpOk.load_row _ _ rfl _ e0 _ XA (0, 0) _ (on_blk_mul (H3.out.below hT).right) hu rfl HsX.out ⟨rfl, Stay.refl _⟩
          · intro ev X hT hb hk hf
            have e0 : ev (.tmp 8) = .pointer (some ⟨g8, 0, Option.none⟩) := hk.1
            exact OpOk.load_row _ _ rfl _ e0 _ YB (0, 0) _ (on_blk_mul (H3.out.below hT)) hu rfl HsY.out ⟨rfl, Stay.refl _⟩
          · intro ev X hT hb hk hf
            have e0 : ev (.tmp 40) = .agg XA := hf.1
            have e1 : ev (.tmp 41) = .agg YB := hf.2.1
            refine OpOk.enters (f := 41) (args := #[.agg XA, .agg YB]) (W' := X) (by simp [execOp, resolve, invoke, e0, e1, hb.1, hb.2.1, go_sem]) ((HaddL.out X).mono ?_)
            rintro e _ ⟨rfl, hB⟩
            exact ⟨_, rfl, rfl, hB⟩
          · intro ev X hT hb hk hf
            have e0 : ev (.tmp 39) = .agg SU := hf.1
            have e1 : ev (.tmp 42) = .agg SU := hf.2.1
            exact OpOk.run (v := .bool true) (W' := X) (by
              unfold execOp
              simp only [e0, e1, Sem.run_bind, run_eqGuard_agg X _ _ _ _ _ _ Hgd.out, run_eql_struct, HE1.out X, Result.andThen_ok]
              simp) ⟨rfl, Stay.refl _⟩
          · intro ev X hT hb hk hf
            have e0 : ev (.tmp 43) = .bool true := hf.1
            exact OpOk.move rfl e0 ⟨rfl, Stay.refl _⟩
          · intro ev X hT hb hk hf
            refine ⟨true, hf.1, fun _ => ?_, fun h => (h rfl).elim⟩
            have e0 : ev (.tmp 7) = .pointer (some ⟨g7, 0, Option.none⟩) := hk.1
            exact OpOk.load_row _ _ rfl _ e0 _ XA (0, 0) _ (on_blk_mul (H3.out.below hT).right) hu rfl HsX.out ⟨rfl, Stay.refl _⟩
          · intro ev X hT hb hk hf
            refine ⟨true, hf.1, fun _ => ?_, fun h => (h rfl).elim⟩
            have e0 : ev (.tmp 8) = .pointer (some ⟨g8, 0, Option.none⟩) := hk.1
            exact OpOk.load_row _ _ rfl _ e0 _ YB (0, 0) _ (on_blk_mul (H3.out.below hT)) hu rfl HsY.out ⟨rfl, Stay.refl _⟩
          · intro ev X hT hb hk hf
            refine ⟨true, hf.2.2.1, fun _ => ?_, fun h => (h rfl).elim⟩
            have e0 : ev (.tmp 45) = .agg XA := hf.1
            have e1 : ev (.tmp 46) = .agg YB := hf.2.1
            refine OpOk.enters (f := 42) (args := #[.agg XA, .agg YB]) (W' := X) (by simp [execOp, resolve, invoke, e0, e1, hb.1, hb.2.1, go_sem]) ((Hmul.out X (HO.out.below (all_below (H3.out.below hT).right.right.right.right (HS3.out.trans (Str.below hT))))).mono ?_)
            rintro e _ ⟨rfl, hB⟩
            exact ⟨_, rfl, rfl, hB⟩
          · intro ev X hT hb hk hf
            refine ⟨true, hf.1, fun _ => ?_, fun h => (h rfl).elim⟩
            have e0 : ev (.tmp 7) = .pointer (some ⟨g7, 0, Option.none⟩) := hk.1
            exact OpOk.load_row _ _ rfl _ e0 _ XA (0, 0) _ (on_blk_mul (H3.out.below hT).right) hu rfl HsX.out ⟨rfl, Stay.refl _⟩
          · intro ev X hT hb hk hf
            refine ⟨true, hf.1, fun _ => ?_, fun h => (h rfl).elim⟩
            have e0 : ev (.tmp 8) = .pointer (some ⟨g8, 0, Option.none⟩) := hk.1
            exact OpOk.load_row _ _ rfl _ e0 _ YB (0, 0) _ (on_blk_mul (H3.out.below hT)) hu rfl HsY.out ⟨rfl, Stay.refl _⟩
          · intro ev X hT hb hk hf
            refine ⟨true, hf.2.2.2.1, fun _ => ?_, fun h => (h rfl).elim⟩
            have e0 : ev (.tmp 48) = .agg XA := hf.1
            have e1 : ev (.tmp 49) = .agg YB := hf.2.1
            refine OpOk.enters (f := 43) (args := #[.agg XA, .agg YB]) (W' := X) (by simp [execOp, resolve, invoke, e0, e1, hb.1, hb.2.1, go_sem]) ((HmulL.out X).mono ?_)
            rintro e _ ⟨rfl, hB⟩
            exact ⟨_, rfl, rfl, hB⟩
          · intro ev X hT hb hk hf
            refine ⟨true, hf.2.2.1, fun _ => ?_, fun h => (h rfl).elim⟩
            have e0 : ev (.tmp 47) = .agg PR := hf.1
            have e1 : ev (.tmp 50) = .agg PR := hf.2.1
            exact OpOk.run (v := .bool true) (W' := X) (by
              unfold execOp
              simp only [e0, e1, Sem.run_bind, run_eqGuard_agg X _ _ _ _ _ _ Hgd.out, run_eql_struct, HE2.out X, Result.andThen_ok]
              simp) ⟨rfl, Stay.refl _⟩
          · intro ev X hT hb hk hf
            have e0 : ev (.tmp 44) = .bool true := hf.1
            have e1 : ev (.tmp 51) = .bool true := hf.2.1
            exact OpOk.run (v := .bool true) (W' := X) (by simp [execOp, e0, e1, hb, hb.1, hb.2.1, hb.2.2, go_sem]) ⟨rfl, Stay.refl _⟩
          · intro ev X hT hb hk hf
            have e0 : ev (.tmp 52) = .bool true := hf.1
            exact OpOk.move rfl e0 ⟨rfl, Stay.refl _⟩
          · intro ev X hT hb hk hf
            refine ⟨true, hf.1, fun _ => ?_, fun h => (h rfl).elim⟩
            have e0 : ev (.tmp 3) = .pointer (some ⟨w.heap.size, 0, Option.none⟩) := hk.1
            exact OpOk.load_row _ _ rfl _ e0 _ A4 (0, 0) _ (on_blk_mul (H3.out.below hT).right.right.right) hu rfl HsA.out ⟨rfl, Stay.refl _⟩
          · intro ev X hT hb hk hf
            refine ⟨true, hf.1, fun _ => ?_, fun h => (h rfl).elim⟩
            have e0 : ev (.tmp 2) = .int .i64 i := hk.1
            exact OpOk.move rfl e0 ⟨rfl, Stay.refl _⟩
          · intro ev X hT hb hk hf
            refine ⟨true, hf.2.2.1, fun _ => ?_, fun h => (h rfl).elim⟩
            have e0 : ev (.tmp 54) = .agg A4 := hf.1
            have e1 : ev (.tmp 55) = .int .i64 i := hf.2.1
            refine OpOk.enters (f := 44) (args := #[.agg A4, .int .i64 i]) (W' := X) (by simp [execOp, resolve, invoke, e0, e1, hb.1, hb.2.1, go_sem]) ((Hbit.out X).mono ?_)
            rintro e _ ⟨rfl, hB⟩
            exact ⟨_, rfl, rfl, hB⟩
          · intro ev X hT hb hk hf
            refine ⟨true, hf.1, fun _ => ?_, fun h => (h rfl).elim⟩
            have e0 : ev (.tmp 9) = .bool false := hk.1
            exact OpOk.move rfl e0 ⟨rfl, Stay.refl _⟩
          · intro ev X hT hb hk hf
            refine ⟨true, hf.2.2.1, fun _ => ?_, fun h => (h rfl).elim⟩
            have e0 : ev (.tmp 56) = .bool false := hf.1
            have e1 : ev (.tmp 57) = .bool false := hf.2.1
            exact OpOk.run (v := .bool true) (W' := X) (by simp [execOp, e0, e1, go_sem]) ⟨rfl, Stay.refl _⟩
          · intro ev X hT hb hk hf
            have e0 : ev (.tmp 53) = .bool true := hf.1
            have e1 : ev (.tmp 58) = .bool true := hf.2.1
            exact OpOk.run (v := .bool true) (W' := X) (by simp [execOp, e0, e1, hb, hb.1, hb.2.1, hb.2.2, go_sem]) ⟨rfl, Stay.refl _⟩
          · intro ev X hT hb hk hf
            have e0 : ev (.tmp 59) = .bool true := hf.1
            exact OpOk.assign rfl e0 ⟨rfl, Stay.refl _⟩
        case rest =>
          intro X5 hT5
          rintro _ - _ - _ - _ - _ - _ - _ - _ - _ - _ - _ - _ - _ - _ - _ - _ - _ - _ - _ - _ - _ - _ - _ - _ rfl
          have HB5 := hide (all_below (H3.out.below hT5).right.right.right.right (HS3.out.trans (Str.below hT5)))
          clear hT5
          go_wp2
          refine Rest.done ?_
          go_wp2_with fail
          go_ret
          exact ⟨rfl, HB5.out⟩
      · have hbf := Hof.out hr
        subst hbf
        clear hr
        go_wp2_with fail
        refine wp_region_vs [isV (.agg XA), isV (.agg YB), isV (.agg SU), isV (.agg XA), isV (.agg YB), isV (.agg SU), isV (.bool true), isV (.bool true), isV (.agg XA), isV (.agg YB), isV (.agg PR), isV (.agg XA), isV (.agg YB), isV (.agg PR), isV (.bool true), isV (.bool true), isV (.bool true), isV (.agg A4), isV (.int .i64 i), isV (.bool false), isV (.bool false), isV (.bool true), isV (.bool true), isV (.bool true)]
          (by kernel_rfl) (by kernel_rfl) rfl ?keep ?todo ?rest
        case keep => exact ⟨Keep.isV _, Keep.isV _, Keep.isV _, Keep.isV _, Keep.isV _, Keep.isV _, Keep.isV _, Keep.isV _, Keep.isV _, Keep.isV _, Keep.isV _, Keep.isV _, Keep.isV _, Keep.isV _, Keep.isV _, Keep.isV _, Keep.isV _, Keep.isV _, Keep.isV _, Keep.isV _, Keep.isV _, Keep.isV _, Keep.isV _, Keep.isV _, trivial⟩
        case todo =>
          refine ⟨?_, ?_, ?_, ?_, ?_, ?_, ?_, ?_, ?_, ?_, ?_, ?_, ?_, ?_, ?_, ?_, ?_, ?_, ?_, ?_, ?_, ?_, ?_, ?_, trivial⟩
          · intro ev X hT hb hk hf
            have e0 : ev (.tmp 7) = .pointer (some ⟨g7, 0, Option.none⟩) := hk.1
            exact OpOk.load_row _ _ rfl _ e0 _ XA (0, 0) _ (on_blk_mul (H3.out.below hT).right) hu rfl HsX.out ⟨rfl, Stay.refl _⟩
          · intro ev X hT hb hk hf
            have e0 : ev (.tmp 8) = .pointer (some ⟨g8, 0, Option.none⟩) := hk.1
            exact OpOk.load_row _ _ rfl _ e0 _ YB (0, 0) _ (on_blk_mul (H3.out.below hT)) hu rfl HsY.out ⟨rfl, Stay.refl _⟩
          · intro ev X hT hb hk hf
            have e0 : ev (.tmp 37) = .agg XA := hf.1
            have e1 : ev (.tmp 38) = .agg YB := hf.2.1
            refine OpOk.enters (f := 40) (args := #[.agg XA, .agg YB]) (W' := X) (by simp [execOp, resolve, invoke, e0, e1, hb.1, hb.2.1, go_sem]) ((Hadd.out X (HO.out.below (all_below (H3.out.below hT).right.right.right.right (HS3.out.trans (Str.below hT))))).mono ?_)
            rintro e _ ⟨rfl, hB⟩
            exact ⟨_, rfl, rfl, hB⟩
          · intro ev X hT hb hk hf
            have e0 : ev (.tmp 7) = .pointer (some ⟨g7, 0, Option.none⟩) := hk.1
            exact OpOk.load_row _ _ rfl _ e0 _ XA (0, 0) _ (on_blk_mul (H3.out.below hT).right) hu rfl HsX.out ⟨rfl, Stay.refl _⟩
          · intro ev X hT hb hk hf
            have e0 : ev (.tmp 8) = .pointer (some ⟨g8, 0, Option.none⟩) := hk.1
            exact OpOk.load_row _ _ rfl _ e0 _ YB (0, 0) _ (on_blk_mul (H3.out.below hT)) hu rfl HsY.out ⟨rfl, Stay.refl _⟩
          · intro ev X hT hb hk hf
            have e0 : ev (.tmp 40) = .agg XA := hf.1
            have e1 : ev (.tmp 41) = .agg YB := hf.2.1
            refine OpOk.enters (f := 41) (args := #[.agg XA, .agg YB]) (W' := X) (by simp [execOp, resolve, invoke, e0, e1, hb.1, hb.2.1, go_sem]) ((HaddL.out X).mono ?_)
            rintro e _ ⟨rfl, hB⟩
            exact ⟨_, rfl, rfl, hB⟩
          · intro ev X hT hb hk hf
            have e0 : ev (.tmp 39) = .agg SU := hf.1
            have e1 : ev (.tmp 42) = .agg SU := hf.2.1
            exact OpOk.run (v := .bool true) (W' := X) (by
              unfold execOp
              simp only [e0, e1, Sem.run_bind, run_eqGuard_agg X _ _ _ _ _ _ Hgd.out, run_eql_struct, HE1.out X, Result.andThen_ok]
              simp) ⟨rfl, Stay.refl _⟩
          · intro ev X hT hb hk hf
            have e0 : ev (.tmp 43) = .bool true := hf.1
            exact OpOk.move rfl e0 ⟨rfl, Stay.refl _⟩
          · intro ev X hT hb hk hf
            refine ⟨true, hf.1, fun _ => ?_, fun h => (h rfl).elim⟩
            have e0 : ev (.tmp 7) = .pointer (some ⟨g7, 0, Option.none⟩) := hk.1
            exact OpOk.load_row _ _ rfl _ e0 _ XA (0, 0) _ (on_blk_mul (H3.out.below hT).right) hu rfl HsX.out ⟨rfl, Stay.refl _⟩
          · intro ev X hT hb hk hf
            refine ⟨true, hf.1, fun _ => ?_, fun h => (h rfl).elim⟩
            have e0 : ev (.tmp 8) = .pointer (some ⟨g8, 0, Option.none⟩) := hk.1
            exact OpOk.load_row _ _ rfl _ e0 _ YB (0, 0) _ (on_blk_mul (H3.out.below hT)) hu rfl HsY.out ⟨rfl, Stay.refl _⟩
          · intro ev X hT hb hk hf
            refine ⟨true, hf.2.2.1, fun _ => ?_, fun h => (h rfl).elim⟩
            have e0 : ev (.tmp 45) = .agg XA := hf.1
            have e1 : ev (.tmp 46) = .agg YB := hf.2.1
            refine OpOk.enters (f := 42) (args := #[.agg XA, .agg YB]) (W' := X) (by simp [execOp, resolve, invoke, e0, e1, hb.1, hb.2.1, go_sem]) ((Hmul.out X (HO.out.below (all_below (H3.out.below hT).right.right.right.right (HS3.out.trans (Str.below hT))))).mono ?_)
            rintro e _ ⟨rfl, hB⟩
            exact ⟨_, rfl, rfl, hB⟩
          · intro ev X hT hb hk hf
            refine ⟨true, hf.1, fun _ => ?_, fun h => (h rfl).elim⟩
            have e0 : ev (.tmp 7) = .pointer (some ⟨g7, 0, Option.none⟩) := hk.1
            exact OpOk.load_row _ _ rfl _ e0 _ XA (0, 0) _ (on_blk_mul (H3.out.below hT).right) hu rfl HsX.out ⟨rfl, Stay.refl _⟩
          · intro ev X hT hb hk hf
            refine ⟨true, hf.1, fun _ => ?_, fun h => (h rfl).elim⟩
            have e0 : ev (.tmp 8) = .pointer (some ⟨g8, 0, Option.none⟩) := hk.1
            exact OpOk.load_row _ _ rfl _ e0 _ YB (0, 0) _ (on_blk_mul (H3.out.below hT)) hu rfl HsY.out ⟨rfl, Stay.refl _⟩
          · intro ev X hT hb hk hf
            refine ⟨true, hf.2.2.2.1, fun _ => ?_, fun h => (h rfl).elim⟩
            have e0 : ev (.tmp 48) = .agg XA := hf.1
            have e1 : ev (.tmp 49) = .agg YB := hf.2.1
            refine OpOk.enters (f := 43) (args := #[.agg XA, .agg YB]) (W' := X) (by simp [execOp, resolve, invoke, e0, e1, hb.1, hb.2.1, go_sem]) ((HmulL.out X).mono ?_)
            rintro e _ ⟨rfl, hB⟩
            exact ⟨_, rfl, rfl, hB⟩
          · intro ev X hT hb hk hf
            refine ⟨true, hf.2.2.1, fun _ => ?_, fun h => (h rfl).elim⟩
            have e0 : ev (.tmp 47) = .agg PR := hf.1
            have e1 : ev (.tmp 50) = .agg PR := hf.2.1
            exact OpOk.run (v := .bool true) (W' := X) (by
              unfold execOp
              simp only [e0, e1, Sem.run_bind, run_eqGuard_agg X _ _ _ _ _ _ Hgd.out, run_eql_struct, HE2.out X, Result.andThen_ok]
              simp) ⟨rfl, Stay.refl _⟩
          · intro ev X hT hb hk hf
            have e0 : ev (.tmp 44) = .bool true := hf.1
            have e1 : ev (.tmp 51) = .bool true := hf.2.1
            exact OpOk.run (v := .bool true) (W' := X) (by simp [execOp, e0, e1, hb, hb.1, hb.2.1, hb.2.2, go_sem]) ⟨rfl, Stay.refl _⟩
          · intro ev X hT hb hk hf
            have e0 : ev (.tmp 52) = .bool true := hf.1
            exact OpOk.move rfl e0 ⟨rfl, Stay.refl _⟩
          · intro ev X hT hb hk hf
            refine ⟨true, hf.1, fun _ => ?_, fun h => (h rfl).elim⟩
            have e0 : ev (.tmp 3) = .pointer (some ⟨w.heap.size, 0, Option.none⟩) := hk.1
            exact OpOk.load_row _ _ rfl _ e0 _ A4 (0, 0) _ (on_blk_mul (H3.out.below hT).right.right.right) hu rfl HsA.out ⟨rfl, Stay.refl _⟩
          · intro ev X hT hb hk hf
            refine ⟨true, hf.1, fun _ => ?_, fun h => (h rfl).elim⟩
            have e0 : ev (.tmp 2) = .int .i64 i := hk.1
            exact OpOk.move rfl e0 ⟨rfl, Stay.refl _⟩
          · intro ev X hT hb hk hf
            refine ⟨true, hf.2.2.1, fun _ => ?_, fun h => (h rfl).elim⟩
            have e0 : ev (.tmp 54) = .agg A4 := hf.1
            have e1 : ev (.tmp 55) = .int .i64 i := hf.2.1
            refine OpOk.enters (f := 44) (args := #[.agg A4, .int .i64 i]) (W' := X) (by simp [execOp, resolve, invoke, e0, e1, hb.1, hb.2.1, go_sem]) ((Hbit.out X).mono ?_)
            rintro e _ ⟨rfl, hB⟩
            exact ⟨_, rfl, rfl, hB⟩
          · intro ev X hT hb hk hf
            refine ⟨true, hf.1, fun _ => ?_, fun h => (h rfl).elim⟩
            have e0 : ev (.tmp 9) = .bool false := hk.1
            exact OpOk.move rfl e0 ⟨rfl, Stay.refl _⟩
          · intro ev X hT hb hk hf
            refine ⟨true, hf.2.2.1, fun _ => ?_, fun h => (h rfl).elim⟩
            have e0 : ev (.tmp 56) = .bool false := hf.1
            have e1 : ev (.tmp 57) = .bool false := hf.2.1
            exact OpOk.run (v := .bool true) (W' := X) (by simp [execOp, e0, e1, go_sem]) ⟨rfl, Stay.refl _⟩
          · intro ev X hT hb hk hf
            have e0 : ev (.tmp 53) = .bool true := hf.1
            have e1 : ev (.tmp 58) = .bool true := hf.2.1
            exact OpOk.run (v := .bool true) (W' := X) (by simp [execOp, e0, e1, hb, hb.1, hb.2.1, hb.2.2, go_sem]) ⟨rfl, Stay.refl _⟩
          · intro ev X hT hb hk hf
            have e0 : ev (.tmp 59) = .bool true := hf.1
            exact OpOk.assign rfl e0 ⟨rfl, Stay.refl _⟩
        case rest =>
          intro X5 hT5
          rintro _ - _ - _ - _ - _ - _ - _ - _ - _ - _ - _ - _ - _ - _ - _ - _ - _ - _ - _ - _ - _ - _ - _ - _ rfl
          have HB5 := hide (all_below (H3.out.below hT5).right.right.right.right (HS3.out.trans (Str.below hT5)))
          clear hT5
          go_wp2
          refine Rest.done ?_
          go_wp2_with fail
          go_ret
          exact ⟨rfl, HB5.out⟩
namespace lawScalarSums
theorem own : ownKnob Tryd.prog.godebug = Option.none := by kernel_rfl
theorem laidOut : laidOutB Tryd.prog = true := by kernel_rfl

set_option maxRecDepth 100000 in
theorem contract (H : Type) (enc : TypeId × Value → H) (W : World) (base : Nat) (args : Array Value) (ds gs : List (DataW H)) (before : List MemPlace)
    (hval0 : ∀ (j : Nat) t v, Tryd.f8.params[j]? = some t → args[j]? = some v → Value.okWide Tryd.prog W .any base t v)
    (hW : DataW.Whole enc Tryd.prog Tryd.f8.params.toList Rows.scalarSumsSpec.vars false W args.toList ds gs before) (hsz : (DataW.weightsEach Tryd.prog (Tryd.f8.params.toList ++ (OpenSpec.ofChange Rows.scalarSumsSpec).bare.plain.varTypes Tryd.prog) (ds ++ gs)).all (· ≤ reachBytes) = true) (hL : laidMetH Tryd.prog Rows.scalarSumsRow.laid W) :
    Calls Tryd.prog 8 args W fun e W' => ∃ v, e = .returned v ∧ Rows.scalarSumsSpec.post enc Tryd.prog Tryd.f8 false true false false W args v W' := by
  have hval : ∀ (j : Nat) t v, Tryd.f8.params[j]? = some t → args[j]? = some v → Value.okWide Tryd.prog W .any base t v := hval0
  have hW' := hW
  obtain ⟨p, q, hA0, hV, rfl, hfz, hnd⟩ := hW
  have hA : DataW.TrodAll enc Tryd.prog W 0 (fun _ => true) true Tryd.f8.params.toList args.toList ds p := hA0
  rw [Tryd.params8] at hA hval
  obtain ⟨v0, vs0, d0, ds0, p0, q0, hargs, rfl, rfl, h0, r0⟩ := trodAll_cons hA
  obtain ⟨v1, vs1, d1, ds1, p1, q1, rfl, rfl, rfl, h1, r1⟩ := trodAll_cons r0
  obtain ⟨v2, vs2, d2, ds2, p2, q2, rfl, rfl, rfl, h2, r2⟩ := trodAll_cons r1
  obtain ⟨rfl, rfl, rfl⟩ := trodAll_nil r2
  obtain rfl : args = #[v0, v1, v2] := by cases args; simp_all
  obtain ⟨rfl, rfl⟩ := trodVars_none hV
  have k0 := h0
  have lt0 : ∀ x ∈ p0, x.block < W.heap.size := by obtain ⟨m, hm⟩ := k0; exact DataW.trod_lt m _ _ _ hm
  obtain ⟨s0, rfl, b0⟩ := open_limbs (hval 0 23 v0 rfl rfl) h0
  have k1 := h1
  have lt1 : ∀ x ∈ p1, x.block < W.heap.size := by obtain ⟨m, hm⟩ := k1; exact DataW.trod_lt m _ _ _ hm
  obtain ⟨s1, rfl, b1⟩ := open_limbs (hval 1 23 v1 rfl rfl) h1
  have k2 := h2
  have lt2 : ∀ x ∈ p2, x.block < W.heap.size := by obtain ⟨m, hm⟩ := k2; exact DataW.trod_lt m _ _ _ hm
  obtain ⟨a2, rfl, rfl, rfl, w2⟩ := open_int Tryd.underlying3 (hval 2 3 v2 rfl rfl) h2
  obtain ⟨l2, u2⟩ := wf_i64 w2
  clear hA0 hval0 hsz
  refine (walk_ScalarSums W hL s0 b0 s1 b1 a2 l2 u2).mono fun e W' ⟨he, bel⟩ => ?_
  subst he
  exact ⟨_, rfl, _, _, _, [], _, [], hW', trodAll_mk1 (shut_bool Tryd.underlying4 _), (trodAll_cons_mk (Below.trod laidOut (by kernel_rfl) (of_decide_eq_true (by kernel_rfl)) k0 bel lt0) (trodAll_cons_mk (Below.trod laidOut (by kernel_rfl) (of_decide_eq_true (by kernel_rfl)) k1 bel lt1) (trodAll_cons_mk (shut_int Tryd.underlying3 w2) trodAll_mk0))), rfl, bel.frame _, fun h => by cases h⟩

/-- a world for the witness: the settled one, the listed variables holding what their initialisers lay -/
def litCells (d : DataW Unit) : Array Value := match d with
  | .agg l => (l.filterMap fun x => match x with | .lit (.int k n) => some (Value.int k n) | _ => Option.none).toArray
  | _ => #[]
noncomputable def laidWorld (os : Os) : World :=
  { World.holding Tryd.prog os ⟨#[], #[], []⟩ with heap := ((World.holding Tryd.prog os ⟨#[], #[], []⟩).heap.modify 4 fun
      | .cells _ t frozen => .cells (litCells Rows.laid_bosun_scalar_order) t frozen
      | o => o) }
theorem laid_met (os : Os) : laidMet Tryd.prog Rows.scalarSumsRow.laid ((laidWorld os).forCall (fun _ _ => 0) ⟨#[], #[.agg #[.int .u64 0, .int .u64 0, .int .u64 0, .int .u64 0], .agg #[.int .u64 0, .int .u64 0, .int .u64 0, .int .u64 0], .int .i64 0], []⟩).memory :=
  laidMet_of_run' 8 (by kernel_rfl) (by kernel_rfl)
theorem reads (os : Os) {H : Type} (enc : TypeId × Value → H) : ∃ places, DataW.whole enc Tryd.prog ((laidWorld os).forCall (fun _ _ => 0) ⟨#[], #[.agg #[.int .u64 0, .int .u64 0, .int .u64 0, .int .u64 0], .agg #[.int .u64 0, .int .u64 0, .int .u64 0, .int .u64 0], .int .i64 0], []⟩).memory Tryd.f8.params.toList Rows.scalarSumsSpec.vars false (#[.agg #[.int .u64 0, .int .u64 0, .int .u64 0, .int .u64 0], .agg #[.int .u64 0, .int .u64 0, .int .u64 0, .int .u64 0], .int .i64 0] : Array Value).toList 8 = some ([.agg (List.replicate 4 (.lit (.int .u64 0))), .agg (List.replicate 4 (.lit (.int .u64 0))), .lit (.int .i64 0)], [], places) :=
  ⟨[], by kernel_rfl⟩

set_option maxRecDepth 100000 in
theorem lifted (os : Os) (started : os.Started) (H : Type) (enc : TypeId × Value → H) (F : Stop.Interp) :
    ReturnsInHanded {} Tryd.checked os 8 .any ((OpenSpec.ofChange Rows.scalarSumsSpec).preRow enc Tryd.prog Tryd.f8 Rows.scalarSumsRow.domain false Rows.scalarSumsRow.laid) (((OpenSpec.ofChange Rows.scalarSumsSpec).at F).post enc Tryd.prog Tryd.f8 false true false false) := by
  obtain ⟨places, hx⟩ := reads os enc
  refine returnsInHanded_of_row (C := Tryd.checked) (s := OpenSpec.ofChange Rows.scalarSumsSpec) own started (by kernel_rfl) Tryd.func8
    (witness_row_at (enc := enc) (C := Tryd.checked) false (laidWorld os) #[.agg #[.int .u64 0, .int .u64 0, .int .u64 0, .int .u64 0], .agg #[.int .u64 0, .int .u64 0, .int .u64 0, .int .u64 0], .int .i64 0] rfl (by kernel_rfl) (by kernel_rfl) (by kernel_rfl)
      (OpenSpec.preRow_of_cond 8 hx (by kernel_rfl) (fun k hk => by cases hk) (by kernel_rfl) (laid_met os))) ?_
  intro W base args ds gs before hval hW _ _ hsz hL _ _
  exact contract H enc W base args ds gs before hval hW hsz hL

theorem said : Rows.ScalarSumsSaid :=
  OpenClaim.holds_of_cond 8 Tryd.f8 rfl rfl rfl rfl rfl rfl rfl ⟨rfl, rfl, rfl, rfl, rfl⟩ rfl rfl rfl rfl rfl (by kernel_rfl) Tryd.func8 (by kernel_rfl)
    (of_decide_eq_true (by kernel_rfl)) (by unfold Func.isWrapper; first | (rw [if_pos (by decide +kernel)]; kernel_rfl) | (rw [if_neg (by decide +kernel)]; exact ⟨rfl, rfl⟩))
    (fun os started H enc _ F => by rw [OpenClaim.pre_eq_preRow]; exact lifted os started H enc F)

theorem plain (f : FuncId) (fn : Func) (hf : Tryd.pinned.checked.prog.funcNamed "bosun/bosunlaw06.ScalarSums" = some f) (hfn : Tryd.pinned.checked.prog.funcs[f]? = some fn) :
    false = Tryd.pinned.checked.prog.looks [] ∧ ∀ (j : Nat) t, fn.params[j]? = some t → Tryd.pinned.checked.prog.wantsStandIn t = false := by
  obtain rfl : f = 8 := Option.some.inj ((show Tryd.prog.funcNamed "bosun/bosunlaw06.ScalarSums" = some 8 by kernel_rfl).symm.trans hf) |>.symm
  obtain rfl : fn = Tryd.f8 := (Option.some.inj (Tryd.func8.symm.trans hfn)).symm
  refine ⟨by kernel_rfl, fun j t ht => ?_⟩
  rw [Tryd.params8] at ht
  have hm : t ∈ [23, 23, 3] := by simpa using Array.mem_of_getElem? ht
  have hall : ∀ t ∈ [23, 23, 3], Tryd.prog.wantsStandIn t = false := by
    intro t ht
    simp only [List.mem_cons, List.not_mem_nil, or_false] at ht
    rcases ht with rfl | rfl | rfl <;> kernel_rfl
  exact hall t hm

theorem proved : Rows.ScalarSumsCardSaid :=
  Claim7.holds_tied_plain_at .later [] _ _ _ _ said (fun _ h => by cases h) (by kernel_rfl) (fun _ h => by cases h) scalarSums_row_tie rfl ⟨rfl, rfl⟩ (by kernel_rfl) rfl plain (by kernel_rfl)
end lawScalarSums
end Go.Proofs.YtgkofpfjbjnhfaaDoor
