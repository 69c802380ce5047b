/- the document's scalar: twice a number; the sum of two. -/
import Derived.Test.YtgkofpfjbjnhfaaDoorRs2
namespace Go.Proofs.YtgkofpfjbjnhfaaDoor
open Go.ChangeShapes Go.WideShapes Go.ChangeAt Go.RowKit
set_option linter.unusedVariables false
set_option linter.unusedSimpArgs false

theorem mid_len (s z : List Nat) (k : Nat) (hs : s.length = 4) (hz : z.length = 4) (hk : k ≤ 4) : (s.take k ++ z.drop k).length = 4 := by
  rw [List.length_append, List.length_take, List.length_drop]; omega
theorem u64_add (x y : Nat) : IntKind.u64.wrap ((x : Int) + (y : Int)) = (((x + y) % 18446744073709551616 : Nat) : Int) := by rw [IntKind.wrap_u64]; omega
theorem u64_dbl (x : Nat) : IntKind.u64.wrap ((x : Int) * 2) = (((2 * x) % 18446744073709551616 : Nat) : Int) := by rw [IntKind.wrap_u64]; omega

set_option maxRecDepth 100000 in
set_option maxHeartbeats 8000000 in
theorem double_any (n b : Nat) (hn : n < O6) (hb : b ≤ 1) (w : World) :
    Calls Tryd.prog 71 #[.agg (q4 n), .int .i64 (b : Nat)] w fun e w' => e = .returned (.agg (q4 ((2 * n + b) % O6))) ∧ Below w.heap.size w w' := by
  have hu := Tryd.underlying23
  have hu6 := Tryd.underlying22
  have hui := Tryd.underlying3
  have hz : ∀ w, (zeroValue 23).run Tryd.prog w = .ok (.agg (q4 0)) w := fun w => by rw [qz4]; kernel_rfl
  have Hs : Hid (∀ n, (Tryd.prog.info? 23).map (·.size) = some (q4 n).size) := hide fun n => by rw [q4_size]; kernel_rfl
  have h0 := ((on_all w).alloc (.cells (q4 n) 23)).alloc (.cells (q4 0) 23)
  have hs0 := ((Str.refl w).alloc (.cells (q4 n) 23)).alloc (.cells (q4 0) 23)
  simp only [World.size_alloc] at h0
  have H0 := hide h0
  have HS0 := hide hs0
  have HM := hide (show 2 * n + b < 2 * O6 by omega)
  have hcb : IntKind.u64.wrap ((b : Nat) : Int) = ((b : Nat) : Int) := wrapS b (by omega)
  have Hb := hide hb
  clear h0 hs0 hn
  obtain ⟨M, hM⟩ : ∃ M, M = 2 * n + b := ⟨_, rfl⟩
  rw [← hM] at HM
  have HMd := hide hM
  clear hM
  generalize hA : q4 n = A4 at *
  generalize hZ : q4 0 = Z4 at *
  have HA := hide hA
  have HZ := hide hZ
  clear hA hZ
  rw [← HMd.out]
  go_enter Tryd.func71, Tryd.ntmps71
  go_wp2_with fail
  generalize (w.alloc (.cells A4 23)).alloc (.cells Z4 23) = w1 at *
  go_loopw [5, 6] (fun cv i wr => ∃ k : Nat, k ≤ 4 ∧ i = .int .i64 k ∧ cv = lv (cy n b k) ∧ (blk w.heap.size (.cells (lvs ((qs 4 M).take k ++ (qs 4 n).drop k)) 23 (0, 0)) * (blk (w.heap.size + 1) (.cells Z4 23 (0, 0)) * all w)).on wr ∧ Str w wr) (fun _ i _ => 4 - (intOf i).toNat)
  case atStart =>
    refine ⟨0, by omega, rfl, by rw [cy_0], ?_, HS0.out⟩
    rw [List.take_zero, List.drop_zero, List.nil_append, show lvs (qs 4 n) = q4 n from rfl, HA.out]
    have := H0.out
    rw [SP.mul_left_comm] at this
    exact this
  case round =>
    obtain ⟨k, hk, rfl, rfl, hX, hS2⟩ := hrel
    have HXk := hide hX
    have HSk := hide hS2
    clear hX hS2 H0 HS0
    by_cases hlt : k < 4
    · have hset := set_takeN (qs 4 M) (qs 4 n) k (limb M k) (qs_get 4 M k hlt) (by rw [qs_len]; exact hlt)
      have hget := mid_get (qs 4 M) (qs 4 n) k (by rw [qs_len]; exact hk)
      rw [qs_get 4 n k hlt] at hget
      have hcell := (cell_of_row wr w.heap.size k _ _ _ (on_blk_mul HXk.out)).trans (lvs_get _ k _ hget)
      have hfr := frozen_of_row wr w.heap.size k _ _ (on_blk_mul HXk.out)
      have hst := SP.on.setCell (i := k) HXk.out (lv (limb M k))
      rw [lvs_set, hset] at hst
      have HN := hide hst
      have hcs := cy_step n b k Hb.out hlt
      have hdl := dbl_limb n b k Hb.out hlt
      rw [← HMd.out] at hdl
      have q1 := u64_dbl (limb n k)
      have q2 := u64_add ((2 * limb n k) % 18446744073709551616) (cy n b k)
      have l2 := limb_lt M k
      rw [← hdl, Nat.mod_eq_of_lt l2] at q2
      have l1 := limb_lt n k
      have Q1 := hide q1
      have Q2 := hide q2
      have Hcs := hide hcs
      have hk4 : (k : Int) < 4 := by omega
      clear hset hget hst hcs hdl q1 q2 HXk l2
      generalize limb n k = x at *
      generalize (2 * x) % 18446744073709551616 = t at *
      generalize cy n b k = c at *
      generalize hc2 : cy n b (k + 1) = c2 at *
      have Hc2 := hide hc2
      clear hc2
      generalize limb M k = T at *
      go_wp2_with fail
      rw [Q1.out, Q2.out]
      refine ⟨⟨k + 1, by omega, by simp, ?_, HN.out, HSk.out.setCell _ _⟩, by simp [intOf]; omega⟩
      rw [Hc2.out]
      exact congrArg (Value.int IntKind.u64) (by have := Hcs.out; omega)
    · obtain rfl : k = 4 := by omega
      have e4 : (qs 4 M).take 4 ++ (qs 4 n).drop 4 = qs 4 M := by rw [List.take_of_length_le (by rw [qs_len]; omega), List.drop_of_length_le (by rw [qs_len]; omega), List.append_nil]
      rw [e4, show lvs (qs 4 M) = q4 M from rfl] at HXk
      clear e4
      have gA := on_blk_mul HXk.out
      have gR := on_blk_mul HXk.out.right
      have hBw := all_below HXk.out.right.right HSk.out
      have HBw := hide hBw
      have lA0 := (Array.getElem?_eq_some_iff.1 gA).1
      have lR0 := (Array.getElem?_eq_some_iff.1 gR).1
      have lA : w.heap.size < wr.drew.heap.size := lA0
      have lR : w.heap.size + 1 < wr.drew.heap.size := lR0
      have GA := hide gA
      have GR := hide gR
      have Hzz : Hid (Z4.size = 4) := hide (by rw [← HZ.out, q4_size])
      have HN := hide (Hs.out M)
      have HM4 := hide (show M < 18446744073709551616 ^ 4 from Nat.lt_of_lt_of_le HM.out (by decide))
      clear hBw HXk gA gR lA0 lR0
      by_cases hlo : M < O6
      · have HD := hide (show M % O6 = M from Nat.mod_eq_of_lt hlo)
        have Hlo := hide hlo
        have Hza := hide (show Z4.size = (q4 M).size by rw [Hzz.out, q4_size])
        have hone := lvs_one (qs 4 M)
        have Hone := hide hone
        clear hlo hone
        go_wp2_with fail
        refine wp_region_vs [isV (.agg (q4 M)), isV (.agg (q4 O6)), isV (.bool true)]
          (by kernel_rfl) (by kernel_rfl) rfl ?keep ?todo ?rest
        case keep => exact ⟨Keep.isV _, Keep.isV _, Keep.isV _, trivial⟩
        case todo =>
          refine ⟨?_, ?_, ?_, trivial⟩
          · intro ev X hT hb hk hf
            have e0 : ev (.tmp 2) = .pointer (some ⟨w.heap.size, 0, Option.none⟩) := hk.1
            exact OpOk.load_row _ _ rfl _ e0 _ (q4 M) (0, 0) _ ((hT.block _ lA).trans GA.out) hu rfl HN.out ⟨rfl, Stay.refl _⟩
          · intro ev X hT hb hk hf
            refine OpOk.enters (f := 64) (args := #[]) (W' := X) (by simp [execOp, resolve, invoke, hb.1, hb.2.1, go_sem]) ((rl_any X).mono ?_)
            rintro e _ ⟨rfl, hB⟩
            exact ⟨_, rfl, rfl, hB⟩
          · intro ev X hT hb hk hf
            have e0 : ev (.tmp 27) = .agg (q4 M) := hf.1
            have e1 : ev (.tmp 28) = .agg (q4 O6) := hf.2.1
            refine OpOk.enters (f := 68) (args := #[.agg (q4 M), .agg (q4 O6)]) (W' := X) (by simp [execOp, resolve, invoke, e0, e1, hb.1, hb.2.1, go_sem]) ((below_any M O6 HM4.out (by decide) X).mono ?_)
            rintro e _ ⟨rfl, hB⟩
            exact ⟨_, rfl, congrArg Value.bool (decide_eq_true Hlo.out), hB⟩
        case rest =>
          intro X hT
          rintro _ - _ - _ rfl
          have gA := (hT.block _ lA).trans GA.out
          have gR := (hT.block _ lR).trans GR.out
          have HBX := hide (HBw.out.trans (hT.mono HBw.out.size))
          clear hT
          rw [show lvs (qs 4 M) = q4 M from rfl] at Hone
          rw [← HD.out] at HN Hza Hone gA
          generalize hR4 : q4 (M % O6) = R4 at *
          have HR4 := hide hR4
          clear hR4
          have HsR := HN.out
          have hza := Hza.out
          have hone := Hone.out
          go_wp2
          refine Rest.done ?_
          go_wp2_with (first
            | (refine wpList_store_row rfl _ _ _ rfl (w.heap.size + 1) R4 rfl rfl _ _ gR HsR hza hone ?_)
            | (refine wpList_load_row rfl _ _ rfl (w.heap.size) rfl _ R4 _ _ gA hu rfl HsR ?_))
          refine bodyPost_ret (v := .agg R4) (results_cell_row Tryd.results71 _ _ (w.heap.size + 1) _ R4 (0, 0) _ rfl (setRow_heap_same _ _ _ _ _ _ gR) hu rfl HsR) rfl ⟨by rw [HR4.out], below_setRow HBX.out (by omega) _⟩
      · have HD := hide (show M % O6 = M - O6 by have := HM.out; rw [Nat.mod_eq_sub_mod (by omega), Nat.mod_eq_of_lt (by omega)])
        have Hlo := hide hlo
        have Hle := hide (show O6 ≤ M by omega)
        clear hlo
        go_wp2_with fail
        refine wp_region_vs [isV (.agg (q4 M)), isV (.agg (q4 O6)), isV (.bool false)]
          (by kernel_rfl) (by kernel_rfl) rfl ?keep ?todo ?rest
        case keep => exact ⟨Keep.isV _, Keep.isV _, Keep.isV _, trivial⟩
        case todo =>
          refine ⟨?_, ?_, ?_, trivial⟩
          · intro ev X hT hb hk hf
            have e0 : ev (.tmp 2) = .pointer (some ⟨w.heap.size, 0, Option.none⟩) := hk.1
            exact OpOk.load_row _ _ rfl _ e0 _ (q4 M) (0, 0) _ ((hT.block _ lA).trans GA.out) hu rfl HN.out ⟨rfl, Stay.refl _⟩
          · intro ev X hT hb hk hf
            refine OpOk.enters (f := 64) (args := #[]) (W' := X) (by simp [execOp, resolve, invoke, hb.1, hb.2.1, go_sem]) ((rl_any X).mono ?_)
            rintro e _ ⟨rfl, hB⟩
            exact ⟨_, rfl, rfl, hB⟩
          · intro ev X hT hb hk hf
            have e0 : ev (.tmp 27) = .agg (q4 M) := hf.1
            have e1 : ev (.tmp 28) = .agg (q4 O6) := hf.2.1
            refine OpOk.enters (f := 68) (args := #[.agg (q4 M), .agg (q4 O6)]) (W' := X) (by simp [execOp, resolve, invoke, e0, e1, hb.1, hb.2.1, go_sem]) ((below_any M O6 HM4.out (by decide) X).mono ?_)
            rintro e _ ⟨rfl, hB⟩
            exact ⟨_, rfl, congrArg Value.bool (decide_eq_false Hlo.out), hB⟩
        case rest =>
          intro X2 hT2
          rintro _ - _ - _ rfl
          have GA2 := hide ((hT2.block _ lA).trans GA.out)
          have GR2 := hide ((hT2.block _ lR).trans GR.out)
          have HBX := hide (HBw.out.trans (hT2.mono HBw.out.size))
          have lA2 : w.heap.size < X2.drew.heap.size := Nat.lt_of_lt_of_le lA hT2.size
          have lR2 : w.heap.size + 1 < X2.drew.heap.size := Nat.lt_of_lt_of_le lR hT2.size
          clear hT2
          go_wp2
          refine Rest.done ?_
          go_wp2_with fail
          refine wp_region_tail 3 [isV (.agg (q4 M)), isV (.agg (q4 O6)), isV (.agg (q4 (M - O6)))]
            (by simp only [List.take_succ_cons, List.take_zero]; rfl) (by simp only [List.drop_succ_cons, List.drop_zero]; rfl) (by kernel_rfl) (by kernel_rfl) (by kernel_rfl) (by decide) rfl ?keep ?todo ?rest
          case keep => exact ⟨Keep.isV _, Keep.isV _, Keep.isV _, trivial⟩
          case todo =>
            refine ⟨?_, ?_, ?_, trivial⟩
            · intro ev X hT hb hk hf
              have e0 : ev (.tmp 2) = .pointer (some ⟨w.heap.size, 0, Option.none⟩) := hk.1
              exact OpOk.load_row _ _ rfl _ e0 _ (q4 M) (0, 0) _ ((hT.block _ lA2).trans GA2.out) hu rfl HN.out ⟨rfl, Stay.refl _⟩
            · intro ev X hT hb hk hf
              refine OpOk.enters (f := 64) (args := #[]) (W' := X) (by simp [execOp, resolve, invoke, hb.1, hb.2.1, go_sem]) ((rl_any X).mono ?_)
              rintro e _ ⟨rfl, hB⟩
              exact ⟨_, rfl, rfl, hB⟩
            · intro ev X hT hb hk hf
              have e0 : ev (.tmp 31) = .agg (q4 M) := hf.1
              have e1 : ev (.tmp 32) = .agg (q4 O6) := hf.2.1
              refine OpOk.enters (f := 69) (args := #[.agg (q4 M), .agg (q4 O6)]) (W' := X) (by simp [execOp, resolve, invoke, e0, e1, hb.1, hb.2.1, go_sem]) ((less_any M O6 HM4.out Hle.out X).mono ?_)
              rintro e _ ⟨rfl, hB⟩
              exact ⟨_, rfl, rfl, hB⟩
          case rest =>
            intro X hT
            rintro _ - _ - _ rfl
            have gR := (hT.block _ lR2).trans GR2.out
            have HBX2 := hide (HBX.out.trans (hT.mono HBX.out.size))
            clear hT
            have HsR : Hid ((Tryd.prog.info? 23).map (·.size) = some (q4 (M - O6)).size) := hide (Hs.out _)
            have hone : (q4 (M - O6)).all (·.oneCell') = true := lvs_one _
            have hza : Z4.size = (q4 (M - O6)).size := by rw [Hzz.out, q4_size]
            rw [← HD.out] at HsR hone hza ⊢
            generalize hR4 : q4 (M % O6) = R4 at *
            have HR4 := hide hR4
            clear hR4
            go_wp2
            refine Rest.done ?_
            go_wp2_with (refine wpList_store_row rfl _ _ _ rfl (w.heap.size + 1) R4 rfl rfl _ _ gR HsR.out hza hone ?_)
            refine bodyPost_ret (v := .agg R4) (results_cell_row Tryd.results71 _ _ (w.heap.size + 1) _ R4 (0, 0) _ rfl (setRow_heap_same _ _ _ _ _ _ gR) hu rfl HsR.out) rfl ⟨by rw [HR4.out], below_setRow HBX2.out (by omega) _⟩

set_option maxRecDepth 100000 in
set_option maxHeartbeats 8000000 in
theorem addL_any (a b : Nat) (ha : a < O6) (hb : b < O6) (w : World) :
    Calls Tryd.prog 41 #[.agg (q4 a), .agg (q4 b)] w fun e w' => e = .returned (.agg (q4 ((a + b) % O6))) ∧ Below w.heap.size w w' := by
  have hu := Tryd.underlying23
  have hu6 := Tryd.underlying22
  have hz : ∀ w, (zeroValue 23).run Tryd.prog w = .ok (.agg (q4 0)) w := fun w => by rw [qz4]; kernel_rfl
  have Hs : Hid (∀ n, (Tryd.prog.info? 23).map (·.size) = some (q4 n).size) := hide fun n => by rw [q4_size]; kernel_rfl
  have h0 := (((on_all w).alloc (.cells (q4 a) 23)).alloc (.cells (q4 b) 23)).alloc (.cells (q4 0) 23)
  have hs0 := (((Str.refl w).alloc (.cells (q4 a) 23)).alloc (.cells (q4 b) 23)).alloc (.cells (q4 0) 23)
  simp only [World.size_alloc] at h0
  have H0 := hide h0
  have HS0 := hide hs0
  have HM := hide (show a + b < 2 * O6 by omega)
  clear h0 hs0 ha hb
  obtain ⟨M, hM⟩ : ∃ M, M = a + b := ⟨_, rfl⟩
  rw [← hM] at HM
  have HMd := hide hM
  clear hM
  generalize hA : q4 a = A4 at *
  generalize hB : q4 b = B4 at *
  generalize hZ : q4 0 = Z4 at *
  have HA := hide hA
  have HB := hide hB
  have HZ := hide hZ
  clear hA hB hZ
  rw [← HMd.out]
  go_enter Tryd.func41, Tryd.ntmps41
  go_wp2_with fail
  generalize ((w.alloc (.cells A4 23)).alloc (.cells B4 23)).alloc (.cells Z4 23) = w1 at *
  go_loopw [5, 6] (fun cv i wr => ∃ k : Nat, k ≤ 4 ∧ i = .int .i64 k ∧ cv = lv (cAdd a b k) ∧ (blk w.heap.size (.cells (lvs ((qs 4 M).take k ++ (qs 4 a).drop k)) 23 (0, 0)) * (blk (w.heap.size + 1 + 1) (.cells Z4 23 (0, 0)) * (blk (w.heap.size + 1) (.cells B4 23 (0, 0)) * all w))).on wr ∧ Str w wr) (fun _ i _ => 4 - (intOf i).toNat)
  case atStart =>
    refine ⟨0, by omega, rfl, by rw [cAdd_0]; rfl, ?_, HS0.out⟩
    rw [List.take_zero, List.drop_zero, List.nil_append, show lvs (qs 4 a) = q4 a from rfl, HA.out]
    have := H0.out
    have e : ∀ P Q R T : SP, P * (Q * (R * T)) = R * (P * (Q * T)) := fun P Q R T => by ac_rfl
    rw [e] at this
    exact this
  case round =>
    obtain ⟨k, hk, rfl, rfl, hX, hS2⟩ := hrel
    have HXk := hide hX
    have HSk := hide hS2
    clear hX hS2 H0 HS0
    by_cases hlt : k < 4
    · have hset := set_takeN (qs 4 M) (qs 4 a) k (limb M k) (qs_get 4 M k hlt) (by rw [qs_len]; exact hlt)
      have hget := mid_get (qs 4 M) (qs 4 a) k (by rw [qs_len]; exact hk)
      rw [qs_get 4 a k hlt] at hget
      obtain ⟨pl, hpl⟩ : ∃ pl, pl = (qs 4 M).take k ++ (qs 4 a).drop k := ⟨_, rfl⟩
      rw [← hpl] at hset hget HXk
      have Hget := hide hget
      have Hset := hide hset
      have HcA : Hid (∀ X, (blk w.heap.size (.cells (lvs pl) 23 (0, 0)) * (blk (w.heap.size + 1 + 1) (.cells Z4 23 (0, 0)) * (blk (w.heap.size + 1) (.cells B4 23 (0, 0)) * all w))).on X → X.cell? ⟨w.heap.size, k, Option.none⟩ = some (lv (limb a k))) := hide fun X hX => by rw [cell_of_row X w.heap.size k _ _ _ (on_blk_mul hX)]; exact lvs_get _ k (limb a k) Hget.out
      have HcB : Hid (∀ X, (blk w.heap.size (.cells (lvs pl) 23 (0, 0)) * (blk (w.heap.size + 1 + 1) (.cells Z4 23 (0, 0)) * (blk (w.heap.size + 1) (.cells B4 23 (0, 0)) * all w))).on X → X.cell? ⟨w.heap.size + 1, k, Option.none⟩ = some (lv (limb b k))) := hide fun X hX => by rw [cell_of_row X (w.heap.size + 1) k B4 _ _ (on_blk_mul hX.right.right), ← HB.out]; exact lvs_get _ k (limb b k) (qs_get 4 b k hlt)
      have hst := cAdd_step a b k
      have hli := cAdd_limb a b k
      rw [← HMd.out] at hli
      have l1 := limb_lt a k
      have l2 := limb_lt b k
      have l3 := limb_lt M k
      have l4 := cAdd_le a b k
      have q1 := u64_add (limb a k) (limb b k)
      obtain ⟨s1, hs1⟩ : ∃ s1, s1 = (limb a k + limb b k) % 18446744073709551616 := ⟨_, rfl⟩
      rw [← hs1] at q1
      have q2 := u64_add s1 (cAdd a b k)
      have e2 : (s1 + cAdd a b k) % 18446744073709551616 = limb M k := by rw [hli, hs1]; omega
      rw [e2] at q2
      have Q1 := hide q1
      have Q2 := hide q2
      have Hst := hide hst
      have Hli := hide hli
      have Hs1 := hide hs1
      have hk4 : (k : Int) < 4 := by omega
      have l5 : s1 < 18446744073709551616 := by rw [hs1]; exact Nat.mod_lt _ (by decide)
      clear hset hget q1 q2 hpl hst hli e2 hs1
      have Hfin : Hid (∀ X : World, (blk w.heap.size (.cells (lvs pl) 23 (0, 0)) * (blk (w.heap.size + 1 + 1) (.cells Z4 23 (0, 0)) * (blk (w.heap.size + 1) (.cells B4 23 (0, 0)) * all w))).on X → (blk w.heap.size (.cells (lvs ((qs 4 M).take (k + 1) ++ (qs 4 a).drop (k + 1))) 23 (0, 0)) * (blk (w.heap.size + 1 + 1) (.cells Z4 23 (0, 0)) * (blk (w.heap.size + 1) (.cells B4 23 (0, 0)) * all w))).on (X.setCell ⟨w.heap.size, k, Option.none⟩ (lv (limb M k)))) := hide fun X hX => by
          have h3 := SP.on.setCell (i := k) hX (lv (limb M k))
          rw [lvs_set, Hset.out] at h3
          exact h3
      generalize limb a k = x at *
      generalize limb b k = y at *
      generalize cAdd a b k = c at *
      generalize hc2 : cAdd a b (k + 1) = c2 at *
      have Hc2 := hide hc2
      clear hc2
      generalize limb M k = T at *
      go_wp2_with fail
      refine wp_region_vs [isV (.int .i64 (k : Int)), isV (.pointer (some ⟨w.heap.size, k, Option.none⟩)), isV (lv x), isV (.int .i64 (k : Int)), isV (.pointer (some ⟨w.heap.size + 1, k, Option.none⟩)), isV (lv y), isV (lv s1), isV (lv s1)]
        (by kernel_rfl) (by kernel_rfl) rfl ?keep ?todo ?rest
      case keep => exact ⟨Keep.isV _, Keep.isV _, Keep.isV _, Keep.isV _, Keep.isV _, Keep.isV _, Keep.isV _, Keep.isV _, trivial⟩
      case todo =>
        refine ⟨?_, ?_, ?_, ?_, ?_, ?_, ?_, ?_, trivial⟩
        · intro ev X hT hb hk hf
          have e0 : ev (.tmp 6) = .int .i64 (k : Int) := hk.1
          exact OpOk.move rfl e0 ⟨rfl, Stay.refl _⟩
        · intro ev X hT hb hk hf
          have e0 : ev (.tmp 2) = .pointer (some ⟨w.heap.size, 0, Option.none⟩) := hk.1
          have e1 : ev (.tmp 14) = .int .i64 (k : Int) := hf.1
          exact OpOk.run (v := .pointer (some ⟨w.heap.size, k, Option.none⟩)) (W' := X) (by simp [execOp, e0, e1, hb.1, hk4, go_sem]; try (intro h; omega)) ⟨rfl, Stay.refl _⟩
        · intro ev X hT hb hk hf
          have e0 : ev (.tmp 15) = .pointer (some ⟨w.heap.size, k, Option.none⟩) := hf.1
          have cW := HcA.out X (HXk.out.below hT)
          exact OpOk.run (v := lv x) (W' := X) (by simp [execOp, e0, cW, go_sem]) ⟨rfl, Stay.refl _⟩
        · intro ev X hT hb hk hf
          have e0 : ev (.tmp 6) = .int .i64 (k : Int) := hk.1
          exact OpOk.move rfl e0 ⟨rfl, Stay.refl _⟩
        · intro ev X hT hb hk hf
          have e0 : ev (.tmp 3) = .pointer (some ⟨w.heap.size + 1, 0, Option.none⟩) := hk.1
          have e1 : ev (.tmp 17) = .int .i64 (k : Int) := hf.1
          exact OpOk.run (v := .pointer (some ⟨w.heap.size + 1, k, Option.none⟩)) (W' := X) (by simp [execOp, e0, e1, hb.1, hk4, go_sem]; try (intro h; omega)) ⟨rfl, Stay.refl _⟩
        · intro ev X hT hb hk hf
          have e0 : ev (.tmp 18) = .pointer (some ⟨w.heap.size + 1, k, Option.none⟩) := hf.1
          have cW := HcB.out X (HXk.out.below hT)
          exact OpOk.run (v := lv y) (W' := X) (by simp [execOp, e0, cW, go_sem]) ⟨rfl, Stay.refl _⟩
        · intro ev X hT hb hk hf
          have e0 : ev (.tmp 16) = lv x := hf.1
          have e1 : ev (.tmp 19) = lv y := hf.2.1
          exact OpOk.run (v := lv s1) (W' := X) (by have h9 := Q1.out; simp [execOp, e0, e1, h9, go_sem]) ⟨rfl, Stay.refl _⟩
        · intro ev X hT hb hk hf
          have e0 : ev (.tmp 20) = lv s1 := hf.1
          exact OpOk.assign rfl e0 ⟨rfl, Stay.refl _⟩
      case rest =>
        intro X hT
        rintro _ - _ - _ - _ - _ - _ - _ - _ rfl
        have HX2 := hide (HXk.out.below hT)
        have HS2 := hide (HSk.out.trans (Str.below hT))
        have hcell := HcA.out X HX2.out
        have hfr := frozen_of_row X w.heap.size k _ _ (on_blk_mul HX2.out)
        have HF := hide (Hfin.out X HX2.out)
        clear hT HXk HSk
        by_cases o1 : s1 < x
        · have o1' : (s1 : Int) < (x : Int) := by omega
          by_cases o2 : T < s1
          · have o2' : (T : Int) < (s1 : Int) := by omega
            have HE := hide (show c2 = 1 by have h1 := Hst.out; have h2 := Hs1.out; have h3 := Hli.out; omega)
            clear o1 o2
            have hq2 : IntKind.u64.wrap ((s1 : Int) + (c : Int)) = (T : Int) := Q2.out
            go_wp2
            refine Rest.done ?_
            go_wp2_with fail
            exact ⟨⟨k + 1, by omega, by simp, by rw [Hc2.out, HE.out]; rfl, HF.out, HS2.out.setCell _ _⟩, by simp [intOf]; omega⟩
          · have o2' : ¬ (T : Int) < (s1 : Int) := by omega
            have HE := hide (show c2 = 1 by have h1 := Hst.out; have h2 := Hs1.out; have h3 := Hli.out; omega)
            clear o1 o2
            have hq2 : IntKind.u64.wrap ((s1 : Int) + (c : Int)) = (T : Int) := Q2.out
            go_wp2
            refine Rest.done ?_
            go_wp2_with fail
            exact ⟨⟨k + 1, by omega, by simp, by rw [Hc2.out, HE.out]; rfl, HF.out, HS2.out.setCell _ _⟩, by simp [intOf]; omega⟩
        · have o1' : ¬ (s1 : Int) < (x : Int) := by omega
          by_cases o2 : T < s1
          · have o2' : (T : Int) < (s1 : Int) := by omega
            have HE := hide (show c2 = 1 by have h1 := Hst.out; have h2 := Hs1.out; have h3 := Hli.out; omega)
            clear o1 o2
            have hq2 : IntKind.u64.wrap ((s1 : Int) + (c : Int)) = (T : Int) := Q2.out
            go_wp2
            refine Rest.done ?_
            go_wp2_with fail
            exact ⟨⟨k + 1, by omega, by simp, by rw [Hc2.out, HE.out]; rfl, HF.out, HS2.out.setCell _ _⟩, by simp [intOf]; omega⟩
          · have o2' : ¬ (T : Int) < (s1 : Int) := by omega
            have HE := hide (show c2 = 0 by have h1 := Hst.out; have h2 := Hs1.out; have h3 := Hli.out; omega)
            clear o1 o2
            have hq2 : IntKind.u64.wrap ((s1 : Int) + (c : Int)) = (T : Int) := Q2.out
            go_wp2
            refine Rest.done ?_
            go_wp2_with fail
            exact ⟨⟨k + 1, by omega, by simp, by rw [Hc2.out, HE.out]; rfl, HF.out, HS2.out.setCell _ _⟩, by simp [intOf]; omega⟩
    · obtain rfl : k = 4 := by omega
      have e4 : (qs 4 M).take 4 ++ (qs 4 a).drop 4 = qs 4 M := by rw [List.take_of_length_le (by rw [qs_len]; omega), List.drop_of_length_le (by rw [qs_len]; omega), List.append_nil]
      rw [e4, show lvs (qs 4 M) = q4 M from rfl] at HXk
      clear e4
      have gA := on_blk_mul HXk.out
      have gR := on_blk_mul HXk.out.right
      have hBw := all_below HXk.out.right.right.right HSk.out
      have HBw := hide hBw
      have lA0 := (Array.getElem?_eq_some_iff.1 gA).1
      have lR0 := (Array.getElem?_eq_some_iff.1 gR).1
      have lA : w.heap.size < wr.drew.heap.size := lA0
      have lR : w.heap.size + 1 + 1 < wr.drew.heap.size := lR0
      have GA := hide gA
      have GR := hide gR
      have Hzz : Hid (Z4.size = 4) := hide (by rw [← HZ.out, q4_size])
      have HN := hide (Hs.out M)
      have HM4 := hide (show M < 18446744073709551616 ^ 4 from Nat.lt_of_lt_of_le HM.out (by decide))
      clear hBw HXk gA gR lA0 lR0
      by_cases hlo : M < O6
      · have HD := hide (show M % O6 = M from Nat.mod_eq_of_lt hlo)
        have Hlo := hide hlo
        have Hza := hide (show Z4.size = (q4 M).size by rw [Hzz.out, q4_size])
        have hone := lvs_one (qs 4 M)
        have Hone := hide hone
        clear hlo hone
        go_wp2_with fail
        refine wp_region_vs [isV (.agg (q4 M)), isV (.agg (q4 O6)), isV (.bool true)]
          (by kernel_rfl) (by kernel_rfl) rfl ?keep ?todo ?rest
        case keep => exact ⟨Keep.isV _, Keep.isV _, Keep.isV _, trivial⟩
        case todo =>
          refine ⟨?_, ?_, ?_, trivial⟩
          · intro ev X hT hb hk hf
            have e0 : ev (.tmp 2) = .pointer (some ⟨w.heap.size, 0, Option.none⟩) := hk.1
            exact OpOk.load_row _ _ rfl _ e0 _ (q4 M) (0, 0) _ ((hT.block _ lA).trans GA.out) hu rfl HN.out ⟨rfl, Stay.refl _⟩
          · intro ev X hT hb hk hf
            refine OpOk.enters (f := 64) (args := #[]) (W' := X) (by simp [execOp, resolve, invoke, hb.1, hb.2.1, go_sem]) ((rl_any X).mono ?_)
            rintro e _ ⟨rfl, hB⟩
            exact ⟨_, rfl, rfl, hB⟩
          · intro ev X hT hb hk hf
            have e0 : ev (.tmp 36) = .agg (q4 M) := hf.1
            have e1 : ev (.tmp 37) = .agg (q4 O6) := hf.2.1
            refine OpOk.enters (f := 68) (args := #[.agg (q4 M), .agg (q4 O6)]) (W' := X) (by simp [execOp, resolve, invoke, e0, e1, hb.1, hb.2.1, go_sem]) ((below_any M O6 HM4.out (by decide) X).mono ?_)
            rintro e _ ⟨rfl, hB⟩
            exact ⟨_, rfl, congrArg Value.bool (decide_eq_true Hlo.out), hB⟩
        case rest =>
          intro X hT
          rintro _ - _ - _ rfl
          have gA := (hT.block _ lA).trans GA.out
          have gR := (hT.block _ lR).trans GR.out
          have HBX := hide (HBw.out.trans (hT.mono HBw.out.size))
          clear hT
          rw [show lvs (qs 4 M) = q4 M from rfl] at Hone
          rw [← HD.out] at HN Hza Hone gA
          generalize hR4 : q4 (M % O6) = R4 at *
          have HR4 := hide hR4
          clear hR4
          have HsR := HN.out
          have hza := Hza.out
          have hone := Hone.out
          go_wp2
          refine Rest.done ?_
          go_wp2_with (first
            | (refine wpList_store_row rfl _ _ _ rfl (w.heap.size + 1 + 1) R4 rfl rfl _ _ gR HsR hza hone ?_)
            | (refine wpList_load_row rfl _ _ rfl (w.heap.size) rfl _ R4 _ _ gA hu rfl HsR ?_))
          refine bodyPost_ret (v := .agg R4) (results_cell_row Tryd.results41 _ _ (w.heap.size + 1 + 1) _ R4 (0, 0) _ rfl (setRow_heap_same _ _ _ _ _ _ gR) hu rfl HsR) rfl ⟨by rw [HR4.out], below_setRow HBX.out (by omega) _⟩
      · have HD := hide (show M % O6 = M - O6 by have := HM.out; rw [Nat.mod_eq_sub_mod (by omega), Nat.mod_eq_of_lt (by omega)])
        have Hlo := hide hlo
        have Hle := hide (show O6 ≤ M by omega)
        clear hlo
        go_wp2_with fail
        refine wp_region_vs [isV (.agg (q4 M)), isV (.agg (q4 O6)), isV (.bool false)]
          (by kernel_rfl) (by kernel_rfl) rfl ?keep ?todo ?rest
        case keep => exact ⟨Keep.isV _, Keep.isV _, Keep.isV _, trivial⟩
        case todo =>
          refine ⟨?_, ?_, ?_, trivial⟩
          · intro ev X hT hb hk hf
            have e0 : ev (.tmp 2) = .pointer (some ⟨w.heap.size, 0, Option.none⟩) := hk.1
            exact OpOk.load_row _ _ rfl _ e0 _ (q4 M) (0, 0) _ ((hT.block _ lA).trans GA.out) hu rfl HN.out ⟨rfl, Stay.refl _⟩
          · intro ev X hT hb hk hf
            refine OpOk.enters (f := 64) (args := #[]) (W' := X) (by simp [execOp, resolve, invoke, hb.1, hb.2.1, go_sem]) ((rl_any X).mono ?_)
            rintro e _ ⟨rfl, hB⟩
            exact ⟨_, rfl, rfl, hB⟩
          · intro ev X hT hb hk hf
            have e0 : ev (.tmp 36) = .agg (q4 M) := hf.1
            have e1 : ev (.tmp 37) = .agg (q4 O6) := hf.2.1
            refine OpOk.enters (f := 68) (args := #[.agg (q4 M), .agg (q4 O6)]) (W' := X) (by simp [execOp, resolve, invoke, e0, e1, hb.1, hb.2.1, go_sem]) ((below_any M O6 HM4.out (by decide) X).mono ?_)
            rintro e _ ⟨rfl, hB⟩
            exact ⟨_, rfl, congrArg Value.bool (decide_eq_false Hlo.out), hB⟩
        case rest =>
          intro X2 hT2
          rintro _ - _ - _ rfl
          have GA2 := hide ((hT2.block _ lA).trans GA.out)
          have GR2 := hide ((hT2.block _ lR).trans GR.out)
          have HBX := hide (HBw.out.trans (hT2.mono HBw.out.size))
          have lA2 : w.heap.size < X2.drew.heap.size := Nat.lt_of_lt_of_le lA hT2.size
          have lR2 : w.heap.size + 1 + 1 < X2.drew.heap.size := Nat.lt_of_lt_of_le lR hT2.size
          clear hT2
          go_wp2
          refine Rest.done ?_
          go_wp2_with fail
          refine wp_region_tail 3 [isV (.agg (q4 M)), isV (.agg (q4 O6)), isV (.agg (q4 (M - O6)))]
            (by simp only [List.take_succ_cons, List.take_zero]; rfl) (by simp only [List.drop_succ_cons, List.drop_zero]; rfl) (by kernel_rfl) (by kernel_rfl) (by kernel_rfl) (by decide) rfl ?keep ?todo ?rest
          case keep => exact ⟨Keep.isV _, Keep.isV _, Keep.isV _, trivial⟩
          case todo =>
            refine ⟨?_, ?_, ?_, trivial⟩
            · intro ev X hT hb hk hf
              have e0 : ev (.tmp 2) = .pointer (some ⟨w.heap.size, 0, Option.none⟩) := hk.1
              exact OpOk.load_row _ _ rfl _ e0 _ (q4 M) (0, 0) _ ((hT.block _ lA2).trans GA2.out) hu rfl HN.out ⟨rfl, Stay.refl _⟩
            · intro ev X hT hb hk hf
              refine OpOk.enters (f := 64) (args := #[]) (W' := X) (by simp [execOp, resolve, invoke, hb.1, hb.2.1, go_sem]) ((rl_any X).mono ?_)
              rintro e _ ⟨rfl, hB⟩
              exact ⟨_, rfl, rfl, hB⟩
            · intro ev X hT hb hk hf
              have e0 : ev (.tmp 40) = .agg (q4 M) := hf.1
              have e1 : ev (.tmp 41) = .agg (q4 O6) := hf.2.1
              refine OpOk.enters (f := 69) (args := #[.agg (q4 M), .agg (q4 O6)]) (W' := X) (by simp [execOp, resolve, invoke, e0, e1, hb.1, hb.2.1, go_sem]) ((less_any M O6 HM4.out Hle.out X).mono ?_)
              rintro e _ ⟨rfl, hB⟩
              exact ⟨_, rfl, rfl, hB⟩
          case rest =>
            intro X hT
            rintro _ - _ - _ rfl
            have gR := (hT.block _ lR2).trans GR2.out
            have HBX2 := hide (HBX.out.trans (hT.mono HBX.out.size))
            clear hT
            have HsR : Hid ((Tryd.prog.info? 23).map (·.size) = some (q4 (M - O6)).size) := hide (Hs.out _)
            have hone : (q4 (M - O6)).all (·.oneCell') = true := lvs_one _
            have hza : Z4.size = (q4 (M - O6)).size := by rw [Hzz.out, q4_size]
            rw [← HD.out] at HsR hone hza ⊢
            generalize hR4 : q4 (M % O6) = R4 at *
            have HR4 := hide hR4
            clear hR4
            go_wp2
            refine Rest.done ?_
            go_wp2_with (refine wpList_store_row rfl _ _ _ rfl (w.heap.size + 1 + 1) R4 rfl rfl _ _ gR HsR.out hza hone ?_)
            refine bodyPost_ret (v := .agg R4) (results_cell_row Tryd.results41 _ _ (w.heap.size + 1 + 1) _ R4 (0, 0) _ rfl (setRow_heap_same _ _ _ _ _ _ gR) hu rfl HsR.out) rfl ⟨by rw [HR4.out], below_setRow HBX2.out (by omega) _⟩
end Go.Proofs.YtgkofpfjbjnhfaaDoor
