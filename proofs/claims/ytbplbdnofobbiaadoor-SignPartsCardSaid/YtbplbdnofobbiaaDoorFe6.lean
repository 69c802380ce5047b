/- field: roots; numbers of bytes. -/
import Derived.Test.YtbplbdnofobbiaaDoorFe5
import Derived.Test.YtbplbdnofobbiaaDoorGSc3
set_option linter.unusedVariables false
set_option linter.unusedSimpArgs false
set_option maxRecDepth 100000
set_option maxHeartbeats 8000000
namespace Go.Proofs.YtbplbdnofobbiaaDoor
namespace Fe
open Go.ChangeShapes Go.WideShapes Go.ChangeAt Go.RowKit
def root1 (a : Nat) : Nat := pwr a E8 256
def root2 (a : Nat) : Nat := if root1 a * root1 a % P5 = a then root1 a else root1 a * SqM % P5
def rootV (a : Nat) : Value := if root2 a * root2 a % P5 = a then (if root2 a % 2 = 1 then .tuple #[.agg (q4 ((P5 - root2 a) % P5)), .bool true] else .tuple #[.agg (q4 (root2 a)), .bool true]) else .tuple #[.agg (q4 0), .bool false]
theorem root_any (a : Nat) (ha : a < P5) (w : World) (hT : Tab5 w) (hR : TabR w) :
  Calls Tryd.prog 82 #[.agg (q4 a)] w fun e' w' => e' = .returned (rootV a) ∧ Below w.heap.size w w' := by
 have hu := Tryd.underlying25
 have hz4e := eZero
 have hu4 := Tryd.underlying23
 have hz4 := eZero4
 have h0 := ((on_all w).alloc (.cells (q4 (a)) 25)).alloc (.cells (q4 0) 25)
 have s0 := ((Str.refl w).alloc (.cells (q4 (a)) 25)).alloc (.cells (q4 0) 25)
 try simp only [World.size_alloc] at h0
 have H1 := hide h0
 have S1 := hide s0
 clear h0 s0
 have hP4 := P5_lt
 obtain ⟨sq, hsq⟩ : ∃ s, s = SqM := ⟨_, rfl⟩
 have hE4 : E8 < 18446744073709551616 ^ 4 := by decide
 have hS4 : sq < 18446744073709551616 ^ 4 := by rw [hsq]; decide
 have Hc := hide (fun X h => power_any a E8 (by omega) hE4 X h)
 have hr2 : root2 a = if root1 a * root1 a % P5 = a then root1 a else root1 a * sq % P5 := by rw [hsq]; rfl
 have hrV : rootV a = if root2 a * root2 a % P5 = a then (if root2 a % 2 = 1 then .tuple #[.agg (q4 ((P5 - root2 a) % P5)), .bool true] else .tuple #[.agg (q4 (root2 a)), .bool true]) else .tuple #[.agg (q4 0), .bool false] := rfl
 have hl1 : root1 a < P5 := pwr_lt _ _ _
 rw [show pwr a E8 256 = root1 a from rfl] at Hc
 generalize root1 a = r1 at *
 have hl2 : r1 * sq % P5 < P5 := Nat.mod_lt _ P5_pos
 have hm1 : r1 * r1 % P5 < P5 := Nat.mod_lt _ P5_pos
 have hm2 : r1 * sq % P5 * (r1 * sq % P5) % P5 < P5 := Nat.mod_lt _ P5_pos
 have Ht1 := hide (fun X h => times_any r1 r1 (by omega) (by omega) X h)
 have Ht2 := hide (fun X h => times_any r1 sq (by omega) hS4 X h)
 have Ht3 := hide (fun X h => times_any (r1 * sq % P5) (r1 * sq % P5) (by omega) (by omega) X h)
 have Hq1 := hide (fun X => eq_q4 X 9998 25 Tryd.underlying25 (r1 * r1 % P5) a (by omega) (by omega))
 have Hq2 := hide (fun X => eq_q4 X 9998 25 Tryd.underlying25 (r1 * sq % P5 * (r1 * sq % P5) % P5) a (by omega) (by omega))
 have Ho1 := hide (fun X => odd_any r1 X)
 have Ho2 := hide (fun X => odd_any (r1 * sq % P5) X)
 have Hn1 := hide (fun X h => neg_any r1 hl1 X h)
 have Hn2 := hide (fun X h => neg_any (r1 * sq % P5) hl2 X h)
 have Hgd : Hid (Tryd.prog.eqGuardType Tryd.prog.depth 25 = false) := hide (by kernel_rfl)
 have HrV := hide hrV
 have Hsq := hide hsq
 clear hsq
 have Hr2 := hide hr2
 clear hP4 hE4 hS4 hr2 hrV hl1 hl2 hm1 hm2 ha
 obtain ⟨HsA4, HoA4, HzA4⟩ := eF (a)
 obtain ⟨HsE4, HoE4, HzE4⟩ := b3 (eInfo4 (E8)) (eOne (E8)) (eSize 0 (E8))
 obtain ⟨HsX1, HoX1, HzX1⟩ := eF (r1)
 obtain ⟨HsY1, HoY1, HzY1⟩ := eF (r1 * r1 % P5)
 obtain ⟨HsC4, HoC4, HzC4⟩ := eF (sq)
 obtain ⟨HsX2, HoX2, HzX2⟩ := eF (r1 * sq % P5)
 obtain ⟨HsY2, HoY2, HzY2⟩ := b3 (eInfo (r1 * sq % P5 * (r1 * sq % P5) % P5)) (eOne (r1 * sq % P5 * (r1 * sq % P5) % P5)) (eSize 0 (r1 * sq % P5 * (r1 * sq % P5) % P5))
 obtain ⟨HsN1, HoN1, HzN1⟩ := b3 (eInfo ((P5 - r1) % P5)) (eOne ((P5 - r1) % P5)) (eSize 0 ((P5 - r1) % P5))
 obtain ⟨HsN2, HoN2, HzN2⟩ := b3 (eInfo ((P5 - r1 * sq % P5) % P5)) (eOne ((P5 - r1 * sq % P5) % P5)) (eSize 0 ((P5 - r1 * sq % P5) % P5))
 obtain ⟨HsZ4, HoZ4, HzZ4⟩ := eF (0)
 generalize hA4 : q4 (a) = A4 at *
 have HA4 := hide hA4
 clear hA4
 generalize hE4 : q4 (E8) = E4 at *
 have HE4 := hide hE4
 clear hE4
 generalize hX1 : q4 (r1) = X1 at *
 have HX1 := hide hX1
 clear hX1
 generalize hY1 : q4 (r1 * r1 % P5) = Y1 at *
 have HY1 := hide hY1
 clear hY1
 generalize hC4 : q4 (sq) = C4 at *
 have HC4 := hide hC4
 clear hC4
 generalize hX2 : q4 (r1 * sq % P5) = X2 at *
 have HX2 := hide hX2
 clear hX2
 generalize hY2 : q4 (r1 * sq % P5 * (r1 * sq % P5) % P5) = Y2 at *
 have HY2 := hide hY2
 clear hY2
 generalize hN1 : q4 ((P5 - r1) % P5) = N1 at *
 have HN1 := hide hN1
 clear hN1
 generalize hN2 : q4 ((P5 - r1 * sq % P5) % P5) = N2 at *
 have HN2 := hide hN2
 clear hN2
 generalize hZ4 : q4 0 = Z4 at *
 have HZ4 := hide hZ4
 clear hZ4
 go_enter Tryd.func82, Tryd.ntmps82
 have ht := (hR.below (all_below H1.out.right.right S1.out)).e.part
 rw [HE4.out] at ht
 have g0 := on_blk_mul H1.out
 have g1 := on_blk_mul H1.out.right
 go_wp2_with (first
  | (refine wL g1 hu HsA4 ?_)
  | (refine wpList_load_part rfl _ _ rfl 7 0 rfl E4 _ ht hu4 rfl HsE4 ?_))
 clear g0 g1
 clear ht
 generalize (w.alloc (.cells A4 25)).alloc (.cells Z4 25) = w1 at *
 refine (Hc.out _ (hT.below (all_below H1.out.right.right S1.out))).mono ?_
 rintro e w2 ⟨rfl, hB⟩
 obtain ⟨H2, S2⟩ := nx H1.out S1.out hB
 clear hB H1 S1
 obtain ⟨gN, gM, H3, S3⟩ := newV H2.out S2.out Z4 X1 25
 go_wp2_with (first
  | (refine wS gN HsX1 HzX1 HoX1 ?_))
 generalize (w2.alloc (.cells Z4 25)).setRow w2.heap.size X1 = w3 at *
 clear gN gM H2 S2
 generalize w2.heap.size = p5 at *
 by_cases h1 : r1 * r1 % P5 = a
 ·have hq9 := Hq1.out
  simp only [h1, decide_true] at hq9
  have HQ9 := hide hq9
  have HV0 := HrV.out
  rw [Hr2.out, if_pos h1, if_pos h1] at HV0
  have HV := hide HV0
  clear h1 hq9 HV0 HrV Hr2
  have HY : Y1 = Y1 := rfl
  have hT0 := hide (hT.below (all_below H3.out.right.right.right S3.out))
  go_wp2_with fail
  refine wp_region_vs [isV (.agg X1), isV (.agg X1), isV (.agg Y1), isV (.agg A4), isV (.bool false)]
   (by kernel_rfl) (by kernel_rfl) rfl ?keep ?todo ?r63
  case keep => repeat (first | exact trivial | refine ⟨Keep.isV _, ?_⟩)
  case todo =>
   refine ⟨?_, ?_, ?_, ?_, ?_, trivial⟩
   ·exact fun ev X hT hb hk hf => OpOk.l (x := .tmp 4) hk.1 (on_blk_mul (H3.out.below hT)) hu HsX1.out
   ·exact fun ev X hT hb hk hf => OpOk.l (x := .tmp 4) hk.1 (on_blk_mul (H3.out.below hT)) hu HsX1.out
   ·intro ev X hT hb hk hf
    have e0 : ev (.tmp 8) = _ := hf.1
    have e1 : ev (.tmp 9) = _ := hf.2.1
    exact OpOk.c (by simp [execOp, resolve, invoke, e0, e1, hb.1, hb.2.1, go_sem]) (Ht1.out X (hT0.out.below hT))
   ·exact fun ev X hT hb hk hf => OpOk.l (x := .tmp 1) hk.1 (on_blk_mul (H3.out.below hT).right.right) hu HsA4.out
   ·intro ev X hT hb hk hf
    have e0 : ev (.tmp 10) = _ := hf.1
    have e1 : ev (.tmp 11) = _ := hf.2.1
    exact OpOk.run (v := .bool false) (W' := X) (by
     unfold execOp
     simp only [e0, e1, Sem.run_bind, run_eqGuard_agg X _ _ _ _ _ _ Hgd.out, run_neq_struct, HQ9.out X, Result.andThen_ok]
     rfl) ⟨rfl, Stay.refl _⟩
  intro w4 hX
  rintro _ - _ - _ - _ - _ rfl
  obtain ⟨H4, S4⟩ := nx H3.out S3.out hX
  clear hX H3 S3 hT0
  go_wp2
  refine Rest.done ?_
  have hT0 := hide (hT.below (all_below H4.out.right.right.right S4.out))
  go_wp2_with fail
  refine wp_region_vs [isV (.agg X1), isV (.agg X1), isV (.agg Y1), isV (.agg A4), isV (.bool false)]
   (by kernel_rfl) (by kernel_rfl) rfl ?keep ?todo ?r64
  case keep => repeat (first | exact trivial | refine ⟨Keep.isV _, ?_⟩)
  case todo =>
   refine ⟨?_, ?_, ?_, ?_, ?_, trivial⟩
   ·exact fun ev X hT hb hk hf => OpOk.l (x := .tmp 4) hk.1 (on_blk_mul (H4.out.below hT)) hu HsX1.out
   ·exact fun ev X hT hb hk hf => OpOk.l (x := .tmp 4) hk.1 (on_blk_mul (H4.out.below hT)) hu HsX1.out
   ·intro ev X hT hb hk hf
    have e0 : ev (.tmp 16) = _ := hf.1
    have e1 : ev (.tmp 17) = _ := hf.2.1
    exact OpOk.c (by simp [execOp, resolve, invoke, e0, e1, hb.1, hb.2.1, go_sem]) (Ht1.out X (hT0.out.below hT))
   ·exact fun ev X hT hb hk hf => OpOk.l (x := .tmp 1) hk.1 (on_blk_mul (H4.out.below hT).right.right) hu HsA4.out
   ·intro ev X hT hb hk hf
    have e0 : ev (.tmp 18) = _ := hf.1
    have e1 : ev (.tmp 19) = _ := hf.2.1
    exact OpOk.run (v := .bool false) (W' := X) (by
     unfold execOp
     simp only [e0, e1, Sem.run_bind, run_eqGuard_agg X _ _ _ _ _ _ Hgd.out, run_neq_struct, HQ9.out X, Result.andThen_ok]
     rfl) ⟨rfl, Stay.refl _⟩
  intro w5 hX
  rintro _ - _ - _ - _ - _ rfl
  obtain ⟨H5, S5⟩ := nx H4.out S4.out hX
  clear hX H4 S4 hT0
  go_wp2
  refine Rest.done ?_
  by_cases ho : r1 % 2 = 1
  ·have HE := hide (HV.out.trans (if_pos ho))
   have Ho9 := hide (Ho1.out)
   simp only [ho, decide_true] at Ho9
   clear ho HV
   have g0 := on_blk_mul H5.out
   go_wp2_with (first
    | (refine wL g0 hu HsX1 ?_))
   clear g0
   refine (Ho9.out _).mono ?_
   rintro e w6 ⟨rfl, hB⟩
   obtain ⟨H6, S6⟩ := nx H5.out S5.out hB
   clear hB H5 S5
   have g0 := on_blk_mul H6.out
   go_wp2_with (first
    | (refine wL g0 hu HsX1 ?_))
   clear g0
   refine (Hn1.out _ (hT.below (all_below H6.out.right.right.right S6.out))).mono ?_
   rintro e w7 ⟨rfl, hB⟩
   obtain ⟨H7, S7⟩ := nx H6.out S6.out hB
   clear hB H6 S6
   have H8 := hide (st0 H7.out (cs := N1))
   have S8 := hide (S7.out.setRow (p5) N1)
   have gW := on_blk_mul H7.out
   have g0 := on_blk_mul H8.out
   have gR := on_blk_mul H8.out.right
   have HB := hide (all_below H8.out.right.right.right S8.out)
   go_wp2_with (first
    | (refine wS gW HsN1.out (HzX1.out.symm.trans HzN1.out) HoN1.out ?_)
    | (refine wS gR HsN1 HzN1 HoN1 ?_)
    | (refine wL g0 hu HsN1 ?_))
   exact retT Tryd.results82 gR hu HsN1.out rfl (.bool true) (by rw [HE.out, HN1.out]) HB.out (by omega)
  ·have HE := hide (HV.out.trans (if_neg ho))
   have Ho9 := hide (Ho1.out)
   simp only [ho, decide_false] at Ho9
   clear ho HV
   have g0 := on_blk_mul H5.out
   go_wp2_with (first
    | (refine wL g0 hu HsX1 ?_))
   clear g0
   refine (Ho9.out _).mono ?_
   rintro e w6 ⟨rfl, hB⟩
   obtain ⟨H6, S6⟩ := nx H5.out S5.out hB
   clear hB H5 S5
   have g0 := on_blk_mul H6.out
   have gR := on_blk_mul H6.out.right
   have HB := hide (all_below H6.out.right.right.right S6.out)
   go_wp2_with (first
    | (refine bz4 rfl rfl Z4 HZ4.out ?_)
    | (refine wS gR HsX1 HzX1 HoX1 ?_)
    | (refine wL g0 hu HsX1 ?_))
   exact retT Tryd.results82 gR hu HsX1.out rfl (.bool true) (by rw [HE.out, HX1.out]) HB.out (by omega)
 ·have hq9 := Hq1.out
  simp only [h1, decide_false] at hq9
  have HQ9 := hide hq9
  have HV0 := HrV.out
  rw [Hr2.out, if_neg h1] at HV0
  clear hq9 h1 Hr2 HrV
  have HV1 := hide HV0
  clear HV0
  have hT0 := hide (hT.below (all_below H3.out.right.right.right S3.out))
  go_wp2_with fail
  refine wp_region_vs [isV (.agg X1), isV (.agg X1), isV (.agg Y1), isV (.agg A4), isV (.bool true)]
   (by kernel_rfl) (by kernel_rfl) rfl ?keep ?todo ?r65
  case keep => repeat (first | exact trivial | refine ⟨Keep.isV _, ?_⟩)
  case todo =>
   refine ⟨?_, ?_, ?_, ?_, ?_, trivial⟩
   ·exact fun ev X hT hb hk hf => OpOk.l (x := .tmp 4) hk.1 (on_blk_mul (H3.out.below hT)) hu HsX1.out
   ·exact fun ev X hT hb hk hf => OpOk.l (x := .tmp 4) hk.1 (on_blk_mul (H3.out.below hT)) hu HsX1.out
   ·intro ev X hT hb hk hf
    have e0 : ev (.tmp 8) = _ := hf.1
    have e1 : ev (.tmp 9) = _ := hf.2.1
    exact OpOk.c (by simp [execOp, resolve, invoke, e0, e1, hb.1, hb.2.1, go_sem]) (Ht1.out X (hT0.out.below hT))
   ·exact fun ev X hT hb hk hf => OpOk.l (x := .tmp 1) hk.1 (on_blk_mul (H3.out.below hT).right.right) hu HsA4.out
   ·intro ev X hT hb hk hf
    have e0 : ev (.tmp 10) = _ := hf.1
    have e1 : ev (.tmp 11) = _ := hf.2.1
    exact OpOk.run (v := .bool true) (W' := X) (by
     unfold execOp
     simp only [e0, e1, Sem.run_bind, run_eqGuard_agg X _ _ _ _ _ _ Hgd.out, run_neq_struct, HQ9.out X, Result.andThen_ok]
     rfl) ⟨rfl, Stay.refl _⟩
  intro w4 hX
  rintro _ - _ - _ - _ - _ rfl
  obtain ⟨H4, S4⟩ := nx H3.out S3.out hX
  clear hX H3 S3 hT0
  go_wp2
  refine Rest.done ?_
  have ht := (hR.below (all_below H4.out.right.right.right S4.out)).r.part
  rw [← Hsq.out, HC4.out] at ht
  have g0 := on_blk_mul H4.out
  go_wp2_with (first
   | (refine wL g0 hu HsX1 ?_)
   | (refine wpList_load_part rfl _ _ rfl 8 0 rfl C4 _ ht hu rfl HsC4 ?_))
  clear ht g0
  refine (Ht2.out _ (hT.below (all_below H4.out.right.right.right S4.out))).mono ?_
  rintro e w5 ⟨rfl, hB⟩
  obtain ⟨H5, S5⟩ := nx H4.out S4.out hB
  clear hB H4 S4
  have H6 := hide (st0 H5.out (cs := X2))
  have S6 := hide (S5.out.setRow (p5) X2)
  have gW := on_blk_mul H5.out
  go_wp2_with (first
   | (refine wS gW HsX2.out (HzX1.out.symm.trans HzX2.out) HoX2.out ?_))
  generalize w5.setRow p5 X2 = w6 at *
  clear gW H5 S5
  by_cases h2 : r1 * sq % P5 * (r1 * sq % P5) % P5 = a
  ·have HV := hide (HV1.out.trans (if_pos h2))
   have hq9 := Hq2.out
   simp only [h2, decide_true] at hq9
   have HQ8 := hide hq9
   clear hq9 h2
   have hT0 := hide (hT.below (all_below H6.out.right.right.right S6.out))
   go_wp2_with fail
   refine wp_region_vs [isV (.agg X2), isV (.agg X2), isV (.agg Y2), isV (.agg A4), isV (.bool false)]
    (by kernel_rfl) (by kernel_rfl) rfl ?keep ?todo ?r66
   case keep => repeat (first | exact trivial | refine ⟨Keep.isV _, ?_⟩)
   case todo =>
    refine ⟨?_, ?_, ?_, ?_, ?_, trivial⟩
    ·exact fun ev X hT hb hk hf => OpOk.l (x := .tmp 4) hk.1 (on_blk_mul (H6.out.below hT)) hu HsX2.out
    ·exact fun ev X hT hb hk hf => OpOk.l (x := .tmp 4) hk.1 (on_blk_mul (H6.out.below hT)) hu HsX2.out
    ·intro ev X hT hb hk hf
     have e0 : ev (.tmp 16) = _ := hf.1
     have e1 : ev (.tmp 17) = _ := hf.2.1
     exact OpOk.c (by simp [execOp, resolve, invoke, e0, e1, hb.1, hb.2.1, go_sem]) (Ht3.out X (hT0.out.below hT))
    ·exact fun ev X hT hb hk hf => OpOk.l (x := .tmp 1) hk.1 (on_blk_mul (H6.out.below hT).right.right) hu HsA4.out
    ·intro ev X hT hb hk hf
     have e0 : ev (.tmp 18) = _ := hf.1
     have e1 : ev (.tmp 19) = _ := hf.2.1
     exact OpOk.run (v := .bool false) (W' := X) (by
      unfold execOp
      simp only [e0, e1, Sem.run_bind, run_eqGuard_agg X _ _ _ _ _ _ Hgd.out, run_neq_struct, HQ8.out X, Result.andThen_ok]
      rfl) ⟨rfl, Stay.refl _⟩
   intro w7 hX
   rintro _ - _ - _ - _ - _ rfl
   obtain ⟨H7, S7⟩ := nx H6.out S6.out hX
   clear hX H6 S6 hT0
   go_wp2
   refine Rest.done ?_
   by_cases ho : r1 * sq % P5 % 2 = 1
   ·have HE := hide (HV.out.trans (if_pos ho))
    have Ho9 := hide (Ho2.out)
    simp only [ho, decide_true] at Ho9
    clear ho HV
    have g0 := on_blk_mul H7.out
    go_wp2_with (first
     | (refine wL g0 hu HsX2 ?_))
    clear g0
    refine (Ho9.out _).mono ?_
    rintro e w8 ⟨rfl, hB⟩
    obtain ⟨H8, S8⟩ := nx H7.out S7.out hB
    clear hB H7 S7
    have g0 := on_blk_mul H8.out
    go_wp2_with (first
     | (refine wL g0 hu HsX2 ?_))
    clear g0
    refine (Hn2.out _ (hT.below (all_below H8.out.right.right.right S8.out))).mono ?_
    rintro e w9 ⟨rfl, hB⟩
    obtain ⟨H9, S9⟩ := nx H8.out S8.out hB
    clear hB H8 S8
    have H10 := hide (st0 H9.out (cs := N2))
    have S10 := hide (S9.out.setRow (p5) N2)
    have gW := on_blk_mul H9.out
    have g0 := on_blk_mul H10.out
    have gR := on_blk_mul H10.out.right
    have HB := hide (all_below H10.out.right.right.right S10.out)
    go_wp2_with (first
     | (refine wS gW HsN2.out (HzX2.out.symm.trans HzN2.out) HoN2.out ?_)
     | (refine wS gR HsN2 HzN2 HoN2 ?_)
     | (refine wL g0 hu HsN2 ?_))
    exact retT Tryd.results82 gR hu HsN2.out rfl (.bool true) (by rw [HE.out, HN2.out]) HB.out (by omega)
   ·have HE := hide (HV.out.trans (if_neg ho))
    have Ho9 := hide (Ho2.out)
    simp only [ho, decide_false] at Ho9
    clear ho HV
    have g0 := on_blk_mul H7.out
    go_wp2_with (first
     | (refine wL g0 hu HsX2 ?_))
    clear g0
    refine (Ho9.out _).mono ?_
    rintro e w8 ⟨rfl, hB⟩
    obtain ⟨H8, S8⟩ := nx H7.out S7.out hB
    clear hB H7 S7
    have g0 := on_blk_mul H8.out
    have gR := on_blk_mul H8.out.right
    have HB := hide (all_below H8.out.right.right.right S8.out)
    go_wp2_with (first
     | (refine bz4 rfl rfl Z4 HZ4.out ?_)
     | (refine wS gR HsX2 HzX2 HoX2 ?_)
     | (refine wL g0 hu HsX2 ?_))
    exact retT Tryd.results82 gR hu HsX2.out rfl (.bool true) (by rw [HE.out, HX2.out]) HB.out (by omega)
  ·have HE := hide (HV1.out.trans (if_neg h2))
   have hq9 := Hq2.out
   simp only [h2, decide_false] at hq9
   have HQ8 := hide hq9
   clear hq9 h2
   have hT0 := hide (hT.below (all_below H6.out.right.right.right S6.out))
   go_wp2_with fail
   refine wp_region_vs [isV (.agg X2), isV (.agg X2), isV (.agg Y2), isV (.agg A4), isV (.bool true)]
    (by kernel_rfl) (by kernel_rfl) rfl ?keep ?todo ?r67
   case keep => repeat (first | exact trivial | refine ⟨Keep.isV _, ?_⟩)
   case todo =>
    refine ⟨?_, ?_, ?_, ?_, ?_, trivial⟩
    ·exact fun ev X hT hb hk hf => OpOk.l (x := .tmp 4) hk.1 (on_blk_mul (H6.out.below hT)) hu HsX2.out
    ·exact fun ev X hT hb hk hf => OpOk.l (x := .tmp 4) hk.1 (on_blk_mul (H6.out.below hT)) hu HsX2.out
    ·intro ev X hT hb hk hf
     have e0 : ev (.tmp 16) = _ := hf.1
     have e1 : ev (.tmp 17) = _ := hf.2.1
     exact OpOk.c (by simp [execOp, resolve, invoke, e0, e1, hb.1, hb.2.1, go_sem]) (Ht3.out X (hT0.out.below hT))
    ·exact fun ev X hT hb hk hf => OpOk.l (x := .tmp 1) hk.1 (on_blk_mul (H6.out.below hT).right.right) hu HsA4.out
    ·intro ev X hT hb hk hf
     have e0 : ev (.tmp 18) = _ := hf.1
     have e1 : ev (.tmp 19) = _ := hf.2.1
     exact OpOk.run (v := .bool true) (W' := X) (by
      unfold execOp
      simp only [e0, e1, Sem.run_bind, run_eqGuard_agg X _ _ _ _ _ _ Hgd.out, run_neq_struct, HQ8.out X, Result.andThen_ok]
      rfl) ⟨rfl, Stay.refl _⟩
   intro w7 hX
   rintro _ - _ - _ - _ - _ rfl
   obtain ⟨H7, S7⟩ := nx H6.out S6.out hX
   clear hX H6 S6 hT0
   go_wp2
   refine Rest.done ?_
   have g0 := on_blk_mul H7.out
   have gR := on_blk_mul H7.out.right
   have HB := hide (all_below H7.out.right.right.right S7.out)
   go_wp2_with (first
    | (refine bz4 rfl rfl Z4 HZ4.out ?_)
    | (refine wS gR HsZ4.out rfl HoZ4.out ?_))
   exact retT Tryd.results82 gR hu HsZ4.out rfl (.bool false) (by rw [HE.out]) HB.out (by omega)
theorem redP_self (n : Nat) : (n = redP n) ↔ n < P5 := by
 unfold redP
 constructor
 ·intro h
  split at h
  ·assumption
  ·have : 0 < P5 := by decide
   omega
 ·intro h; rw [if_pos h]
def decE (l : List UInt8) : Value := if leN l < P5 then .tuple #[.agg (q4 (leN l)), .int .i64 0] else .tuple #[.agg (q4 0), .int .i64 7]
theorem decode_any (l : List UInt8) (hl : l.length = 32) (w : World) (hO : Tab5 w) :
  Calls Tryd.prog 52 #[.agg (zb l)] w fun e w' => e = .returned (decE l) ∧ Below w.heap.size w w' := by
 have hu := Tryd.underlying25
 have hu6 := Tryd.underlying22
 have hu8 := Tryd.underlying5
 have hu32 := Tryd.underlying38
 have hz : ∀ w, (zeroValue 25).run Tryd.prog w = .ok (.agg (q4 0)) w := fun w => by rw [qz4]; kernel_rfl
 have Hs : ∀ n, (Tryd.prog.info? 25).map (·.size) = some (q4 n).size := fun n => by rw [q4_size]; kernel_rfl
 have hs8 : (Tryd.prog.info? 22).map (·.size) = some 1 := by kernel_rfl
 have hsb : (Tryd.prog.info? 38).map (·.size) = some (zb l).size := by rw [show (zb l).size = 32 by simp [zb, vbs, hl]]; kernel_rfl
 have Hgd : Hid (Tryd.prog.eqGuardType Tryd.prog.depth 25 = false) := hide (by kernel_rfl)
 have hlt := leN_lt l
 rw [hl, show 256 ^ 32 = 18446744073709551616 ^ 4 from rfl] at hlt
 have HN := hide (Hs (leN l))
 have H00 := hide (Hs 0)
 have HQ := hide (fun X => eq_q4 X 9998 25 hu (leN l) (redP (leN l)) hlt (by unfold redP; split <;> omega))
 have HQd := hide (redP_self (leN l))
 have Hdec : Hid (decE l = if leN l < P5 then .tuple #[.agg (q4 (leN l)), .int .i64 0] else .tuple #[.agg (q4 0), .int .i64 7]) := hide rfl
 have h0 := (((on_all w).alloc (.cells (zb l) 38)).alloc (.cells (q4 0) 25)).alloc (.cells (q4 0) 25)
 have hs0 := (((Str.refl w).alloc (.cells (zb l) 38)).alloc (.cells (q4 0) 25)).alloc (.cells (q4 0) 25)
 simp only [World.size_alloc] at h0
 have H0 := hide h0
 have HS0 := hide hs0
 have HO := hide hO
 have Hl := hide hl
 have Hlt := hide hlt
 have gB := on_blk_mul H0.out.right.right
 have Hib : Hid (∀ (X : World) (k : Nat) (x : UInt8), l[k]? = some x → k < 32 → (Instr.index 38 (.agg (zb l)) (.int .i64 (k : Int))).run Tryd.prog X = .ok (vb x) X) := hide fun X k x hx hk => run_index_one X 38 5 32 (zb l) k (vb x) .u8 hu32 hu8 (by kernel_rfl) hk (by simp [zb, vbs, hx])
 clear h0 hs0 hO hl hlt
 generalize hB : zb l = B at *
 generalize hZ : q4 0 = Z4 at *
 have HZ := hide hZ
 have HsB := hide hsb
 clear hB hZ hsb
 go_enter Tryd.func52, Tryd.ntmps52
 go_wp2_with (refine wL gB hu32 HsB ?_)
 generalize ((w.alloc (.cells B 38)).alloc (.cells Z4 25)).alloc (.cells Z4 25) = w1 at *
 go_loopw [8] (fun i wr => ∃ k : Nat, k ≤ 32 ∧ i = .int .i64 k ∧ (blk (w.heap.size + 1 + 1) (.cells (q4 (leN (l.take k))) 25 (0, 0)) * (blk (w.heap.size + 1) (.cells Z4 25 (0, 0)) * (blk w.heap.size (.cells B 38 (0, 0)) * all w))).on wr ∧ Str w wr) (fun i _ => 32 - (intOf i).toNat)
 case atStart =>
  refine ⟨0, by omega, rfl, ?_, HS0.out⟩
  rw [List.take_zero, show leN [] = 0 from rfl, HZ.out]
  exact H0.out
 case round =>
  obtain ⟨k, hk, rfl, hX, hS2⟩ := hrel
  have HXk := hide hX
  have HSk := hide hS2
  clear hX hS2 H0 HS0 gB
  by_cases hlt : k < 32
  ·have hkl : k < l.length := by rw [Hl.out]; exact hlt
   have hib := Hib.out wr k l[k] (by simp [hkl]) hlt
   have hn := leN_lt (l.take k)
   rw [List.length_take, Nat.min_eq_left (by omega)] at hn
   have hq4 : k / 8 < 4 := by omega
   obtain ⟨hor, hle, _⟩ := byte_step (leN (l.take k)) l[k].toNat k hn (UInt8.toNat_lt _)
   rw [← leN_take l k hkl] at hor
   have hset := qs_byte l k hkl hq4
   have l1 := limb_lt (leN (l.take k)) (k / 8)
   have l2 := limb_lt (leN (l.take (k + 1))) (k / 8)
   have h4 : (q4 (leN (l.take k)))[k / 8]? = some (lv (limb (leN (l.take k)) (k / 8))) := lvs_get _ (k / 8) _ (qs_get 4 (leN (l.take k)) _ hq4)
   have hx8 := UInt8.toNat_lt l[k]
   obtain ⟨P1, hP1⟩ : ∃ P1, P1 = q4 (leN (l.take k)) := ⟨_, rfl⟩
   obtain ⟨P2, hP2⟩ : ∃ P2, P2 = q4 (leN (l.take (k + 1))) := ⟨_, rfl⟩
   have HP2 := hide hP2
   have Hp2 := hide (show P1.setIfInBounds (k / 8) (lv (limb (leN (l.take (k + 1))) (k / 8))) = P2 by rw [hP1, hP2, lvs_set, hset])
   have Hps := hide (show P1.size = 4 by rw [hP1, q4_size])
   rw [← hP1] at h4 HXk
   have q1 : bits .or .u64 ((limb (leN (l.take k)) (k / 8) : Nat) : Int) ((l[k].toNat * 2 ^ (8 * (k % 8)) : Nat) : Int) = ((limb (leN (l.take (k + 1))) (k / 8) : Nat) : Int) := (u64_or_nat _ _ l1 hle).trans (congrArg Int.ofNat hor.symm)
   have q2 : IntKind.u64.wrap ((l[k].toNat : Int) * 2 ^ (8 * (k % 8))) = ((l[k].toNat * 2 ^ (8 * (k % 8)) : Nat) : Int) := by
    rw [show (l[k].toNat : Int) * 2 ^ (8 * (k % 8)) = ((l[k].toNat * 2 ^ (8 * (k % 8)) : Nat) : Int) by rw [Int.natCast_mul, Int.natCast_pow]; rfl]
    exact wrapS _ hle
   have s8 : IntKind.i64.wrap (8 * ((k % 8 : Nat) : Int)) = ((8 * (k % 8) : Nat) : Int) := by rw [IntWalk.i64_in _ (by omega)]; omega
   have H4 := hide h4
   have Hq1 := hide q1
   have Hq2 := hide q2
   clear h4 hset hP1 hP2 hor hle hn l1 l2 q1 q2
   generalize l[k].toNat * 2 ^ (8 * (k % 8)) = sh at *
   generalize limb (leN (l.take k)) (k / 8) = u at *
   generalize limb (leN (l.take (k + 1))) (k / 8) = r at *
   generalize l[k] = x at *
   have c1 : IntKind.i64.wrap ((k : Int) / 8) = ((k / 8 : Nat) : Int) := by rw [IntWalk.i64_in _ (by omega)]; omega
   have c2 : ((k : Int)).tmod 8 = ((k % 8 : Nat) : Int) := by rw [Int.tmod_eq_emod_of_nonneg (by omega)]; omega
   have c5 : IntKind.u64.wrap ((x.toNat : Nat) : Int) = ((x.toNat : Nat) : Int) := wrapS _ (by have := UInt8.toNat_lt x; omega)
   have hk4 : ((k / 8 : Nat) : Int) < 4 := by omega
   have hr8 : 8 * (k % 8) < 64 := by omega
   generalize hqk : k / 8 = q at *
   generalize hrk : k % 8 = m at *
   have Hqk := hide hqk
   have Hrk := hide hrk
   clear hqk hrk
   go_wp2_with fail
   refine Multi.wp_region_multi [12] [12] [isV (.int .i64 (k : Int)), isV (.int .i64 ((q : Nat) : Int)), isV (.pointer (some ⟨w.heap.size + 1 + 1, q, .none⟩)), isV (lv u), isV (vb x), isV (lv x.toNat), isV (.int .i64 (k : Int)), isV (.int .i64 ((m : Nat) : Int)), isV (.int .i64 ((8 * m : Nat) : Int)), isV (lv sh), isV (lv r), isV (.pointer (some ⟨w.heap.size + 1 + 1, q, .none⟩)), (fun _ _ => True)]
    (by kernel_rfl) (by kernel_rfl) (by kernel_rfl) ⟨rfl, trivial⟩ (fun f X => (blk (w.heap.size + 1 + 1) (.cells (if f 12 = true then P2 else P1) 25 (0, 0)) * (blk (w.heap.size + 1) (.cells Z4 25 (0, 0)) * (blk w.heap.size (.cells B 38 (0, 0)) * all w))).on X ∧ Str w X) ⟨SP.on.drew HXk.out, Str.drew HSk.out⟩ (fun f a b h st => ⟨h.1.below st, h.2.trans (Str.below st)⟩) (fun f g X h hI => by rw [← h 12 rfl]; exact hI) ?keep ?todo ?r68 (by decide)
   case keep => exact ⟨Keep.isV _, Keep.isV _, Keep.isV _, Keep.isV _, Keep.isV _, Keep.isV _, Keep.isV _, Keep.isV _, Keep.isV _, Keep.isV _, Keep.isV _, Keep.isV _, fun _ _ _ h _ => h, trivial⟩
   case todo =>
    refine ⟨?_, ?_, ?_, ?_, ?_, ?_, ?_, ?_, ?_, ?_, ?_, ?_, ?_, trivial⟩
    ·intro f hf0 hw hn ev X hT hb hk hf
     have e0 : ev (.tmp 5) = .int .i64 (k : Int) := by have h9 := hk.1; rw [if_pos (by kernel_rfl)] at h9; exact h9
     exact OpOk.move rfl e0 (Multi.ended_stay rfl rfl (Stay.refl _))
    ·intro f hf0 hw hn ev X hT hb hk hf
     have e0 : ev (.tmp 12) = _ := hf.1
     exact OpOk.run (v := .int .i64 ((q : Nat) : Int)) (W' := X) (by simp [execOp, e0, hb.1, c1, go_sem]) (Multi.ended_stay rfl rfl (Stay.refl _))
    ·intro f hf0 hw hn ev X hT hb hk hf
     have e0 : ev (.tmp 4) = .pointer (some ⟨w.heap.size + 1 + 1, 0, .none⟩) := by have h9 := hk.1; rw [if_pos (by kernel_rfl)] at h9; exact h9
     have e1 : ev (.tmp 13) = _ := hf.1
     exact OpOk.run (v := .pointer (some ⟨w.heap.size + 1 + 1, q, .none⟩)) (W' := X) (by simp [execOp, e0, e1, hk4, go_sem]; try (intro h; omega)) (Multi.ended_stay rfl rfl (Stay.refl _))
    ·intro f hf0 hw hn ev X hT hb hk hf
     have e0 : ev (.tmp 14) = _ := hf.1
     have f12 : f 12 = false := hn 12 (by kernel_rfl)
     have hX := hT.1
     rw [f12, if_neg (by decide)] at hX
     have cW := (cell_of_row X (w.heap.size + 1 + 1) (q) _ _ _ (on_blk_mul hX)).trans H4.out
     exact OpOk.run (v := lv u) (W' := X) (by simp [execOp, e0, cW, go_sem]) (Multi.ended_stay rfl rfl (Stay.refl _))
    ·intro f hf0 hw hn ev X hT hb hk hf
     have e0 : ev (.tmp 6) = vb x := by have h9 := hk.1; rw [if_pos (by kernel_rfl)] at h9; exact h9
     exact OpOk.move rfl e0 (Multi.ended_stay rfl rfl (Stay.refl _))
    ·intro f hf0 hw hn ev X hT hb hk hf
     have e0 : ev (.tmp 16) = _ := hf.1
     exact OpOk.run (v := lv x.toNat) (W' := X) (by simp [execOp, e0, hb.1, hu6, hu8, c5, go_sem]) (Multi.ended_stay rfl rfl (Stay.refl _))
    ·intro f hf0 hw hn ev X hT hb hk hf
     have e0 : ev (.tmp 5) = .int .i64 (k : Int) := by have h9 := hk.1; rw [if_pos (by kernel_rfl)] at h9; exact h9
     exact OpOk.move rfl e0 (Multi.ended_stay rfl rfl (Stay.refl _))
    ·intro f hf0 hw hn ev X hT hb hk hf
     have e0 : ev (.tmp 18) = _ := hf.1
     exact OpOk.run (v := .int .i64 ((m : Nat) : Int)) (W' := X) (by simp [execOp, e0, hb.1, c2, go_sem]) (Multi.ended_stay rfl rfl (Stay.refl _))
    ·intro f hf0 hw hn ev X hT hb hk hf
     have e0 : ev (.tmp 19) = _ := hf.1
     exact OpOk.run (v := .int .i64 ((8 * m : Nat) : Int)) (W' := X) (by simp [execOp, e0, hb.1, s8, go_sem]) (Multi.ended_stay rfl rfl (Stay.refl _))
    ·intro f hf0 hw hn ev X hT hb hk hf
     have e0 : ev (.tmp 17) = _ := hf.1
     have e1 : ev (.tmp 20) = _ := hf.2.1
     exact OpOk.run (v := lv sh) (W' := X) (by have h9 := Hq2.out; have h8 : (8 * (m : Int)).toNat = 8 * m := (by omega); simp [execOp, e0, e1, h8, h9, go_sem]) (Multi.ended_stay rfl rfl (Stay.refl _))
    ·intro f hf0 hw hn ev X hT hb hk hf
     have e0 : ev (.tmp 15) = _ := hf.1
     have e1 : ev (.tmp 21) = _ := hf.2.1
     exact OpOk.run (v := lv r) (W' := X) (by have h9 := Hq1.out; simp [execOp, e0, e1, h9, go_sem]) (Multi.ended_stay rfl rfl (Stay.refl _))
    ·intro f hf0 hw hn ev X hT hb hk hf
     have e0 : ev (.tmp 4) = .pointer (some ⟨w.heap.size + 1 + 1, 0, .none⟩) := by have h9 := hk.1; rw [if_pos (by kernel_rfl)] at h9; exact h9
     have e1 : ev (.tmp 13) = _ := hf.1
     exact OpOk.run (v := .pointer (some ⟨w.heap.size + 1 + 1, q, .none⟩)) (W' := X) (by simp [execOp, e0, e1, hk4, go_sem]; try (intro h; omega)) (Multi.ended_stay rfl rfl (Stay.refl _))
    ·intro f hf0 hw hn ev X hT hb hk hf
     have e0 : ev (.tmp 23) = _ := hf.1
     have e1 : ev (.tmp 22) = _ := hf.2.1
     rw [hf0, if_neg (by decide)] at hT
     have hX := hT.1
     exact OpOk.store_one _ _ _ rfl (w.heap.size + 1 + 1) q (lv r) e0 e1 rfl _ P1 hX hs8 (by rw [Hps.out]; omega) rfl P2 Hp2.out (fun h3 => Multi.ended_turn rfl trivial ⟨h3, hT.2.setRow _ _⟩ (Multi.free_keep (by
      intro P hP
      simp only [List.mem_cons, List.not_mem_nil, or_false] at hP
      rcases hP with rfl | rfl | rfl | rfl | rfl | rfl | rfl | rfl | rfl | rfl | rfl | rfl | rfl <;> exact fun _ _ _ h => h) _ _))
   intro X hT
   rintro _ rfl _ rfl _ rfl _ rfl _ rfl _ rfl _ rfl _ rfl _ rfl _ rfl _ rfl _ rfl _ -
   rw [if_pos rfl] at hT
   have HX2 := hide hT.1
   have HST := hide hT.2
   clear hT
   go_wp2
   refine Rest.done ?_
   go_wp2_with fail
   refine ⟨⟨k + 1, by omega, by simp, by rw [← HP2.out]; exact HX2.out, HST.out⟩, by simp [intOf]; omega⟩
  ·obtain rfl : k = 32 := by omega
   rw [List.take_of_length_le (by rw [Hl.out]; omega)] at HXk
   have gA := on_blk_mul HXk.out
   have gR := on_blk_mul HXk.out.right
   have hBw := all_below HXk.out.right.right.right HSk.out
   have HBw := hide hBw
   have HO2 := hide (HO.out.below hBw)
   have lA := (Array.getElem?_eq_some_iff.1 gA).1
   have lR := (Array.getElem?_eq_some_iff.1 gR).1
   have GA := hide gA
   have GR := hide gR
   have Hzz : Hid (Z4.size = 4) := hide (by rw [← HZ.out, q4_size])
   clear hBw HXk gA gR
   by_cases hlo : leN l < P5
   ·have HD := hide (show decE l = .tuple #[.agg (q4 (leN l)), .int .i64 0] by rw [Hdec.out, if_pos hlo])
    have HQ2 : Hid (∀ X, (Op.equalIn 10000 25 (.agg (q4 (leN l))) (.agg (q4 (redP (leN l))))).run Tryd.prog X = .ok true X) := hide (fun X => by rw [HQ.out X, decide_eq_true (HQd.out.2 hlo)])
    have Hza := hide (show Z4.size = (q4 (leN l)).size by rw [Hzz.out, q4_size])
    have Hone := hide (lvs_one (qs 4 (leN l)))
    clear hlo HQ HQd Hdec
    go_wp2_with fail
    refine wp_region_vs [isV (.agg (q4 (leN l))), isV (.agg (q4 (leN l))), isV (.agg (q4 (redP (leN l)))), isV (.bool false)]
     (by kernel_rfl) (by kernel_rfl) rfl ?keep ?todo ?r69
    case keep => exact ⟨Keep.isV _, Keep.isV _, Keep.isV _, Keep.isV _, trivial⟩
    case todo =>
     refine ⟨?_, ?_, ?_, ?_, trivial⟩
     ·intro ev X hT hb hk hf
      have e0 : ev (.tmp 4) = .pointer (some ⟨w.heap.size + 1 + 1, 0, .none⟩) := hk.1
      exact OpOk.load_row _ _ rfl _ e0 _ (q4 (leN l)) (0, 0) _ ((hT.block _ (by simpa using lA)).trans GA.out) hu rfl HN.out ⟨rfl, Stay.refl _⟩
     ·intro ev X hT hb hk hf
      have e0 : ev (.tmp 4) = .pointer (some ⟨w.heap.size + 1 + 1, 0, .none⟩) := hk.1
      exact OpOk.load_row _ _ rfl _ e0 _ (q4 (leN l)) (0, 0) _ ((hT.block _ (by simpa using lA)).trans GA.out) hu rfl HN.out ⟨rfl, Stay.refl _⟩
     ·intro ev X hT hb hk hf
      have e0 : ev (.tmp 26) = _ := hf.1
      exact OpOk.c (by simp [execOp, resolve, invoke, e0, hb.1, hb.2.1, go_sem]) (reduced_any (leN l) Hlt.out X (HO2.out.below hT))
     ·intro ev X hT hb hk hf
      have e0 : ev (.tmp 25) = _ := hf.1
      have e1 : ev (.tmp 27) = _ := hf.2.1
      exact OpOk.run (v := .bool false) (W' := X) (by
       unfold execOp
       simp only [e0, e1, Sem.run_bind, run_eqGuard_agg X _ _ _ _ _ _ Hgd.out, run_neq_struct, HQ2.out X, Result.andThen_ok]
       rfl) ⟨rfl, Stay.refl _⟩
    intro X hT
    rintro _ - _ - _ - _ rfl
    have gA := (hT.block _ (by simpa using lA)).trans GA.out
    have gR := (hT.block _ (by simpa using lR)).trans GR.out
    have HBX := hide (HBw.out.trans (hT.mono HBw.out.size))
    clear hT
    rw [show lvs (qs 4 (leN l)) = q4 (leN l) from rfl] at Hone
    generalize hR4 : q4 (leN l) = R4 at *
    go_wp2
    refine Rest.done ?_
    have HsR := HN.out
    have hza := Hza.out
    have hone := Hone.out
    have HR4 := hide hR4
    clear hR4
    go_wp2_with (first
     | (refine wS gR HsR hza hone ?_)
     | (refine wL gA hu HsR ?_))
    refine bodyPost_ret (v := .tuple #[.agg R4, .int .i64 0]) (results_cell_row_tmp Tryd.results52 _ _ (w.heap.size + 1) _ R4 (0, 0) _ rfl (setRow_heap_same _ _ _ _ _ _ gR) hu rfl HsR (.int .i64 0) rfl) rfl ⟨by rw [HD.out], below_setRow HBX.out (by omega) _⟩
   ·have HD := hide (show decE l = .tuple #[.agg Z4, .int .i64 7] by rw [Hdec.out, if_neg hlo])
    have HQ2 : Hid (∀ X, (Op.equalIn 10000 25 (.agg (q4 (leN l))) (.agg (q4 (redP (leN l))))).run Tryd.prog X = .ok false X) := hide (fun X => by rw [HQ.out X, decide_eq_false (fun h => hlo (HQd.out.1 h))])
    have Hone : Hid (Z4.all (·.oneCell') = true) := hide (by rw [← HZ.out]; exact lvs_one (qs 4 0))
    clear hlo HQ HQd Hdec
    go_wp2_with fail
    refine wp_region_vs [isV (.agg (q4 (leN l))), isV (.agg (q4 (leN l))), isV (.agg (q4 (redP (leN l)))), isV (.bool true)]
     (by kernel_rfl) (by kernel_rfl) rfl ?keep ?todo ?r70
    case keep => exact ⟨Keep.isV _, Keep.isV _, Keep.isV _, Keep.isV _, trivial⟩
    case todo =>
     refine ⟨?_, ?_, ?_, ?_, trivial⟩
     ·intro ev X hT hb hk hf
      have e0 : ev (.tmp 4) = .pointer (some ⟨w.heap.size + 1 + 1, 0, .none⟩) := hk.1
      exact OpOk.load_row _ _ rfl _ e0 _ (q4 (leN l)) (0, 0) _ ((hT.block _ (by simpa using lA)).trans GA.out) hu rfl HN.out ⟨rfl, Stay.refl _⟩
     ·intro ev X hT hb hk hf
      have e0 : ev (.tmp 4) = .pointer (some ⟨w.heap.size + 1 + 1, 0, .none⟩) := hk.1
      exact OpOk.load_row _ _ rfl _ e0 _ (q4 (leN l)) (0, 0) _ ((hT.block _ (by simpa using lA)).trans GA.out) hu rfl HN.out ⟨rfl, Stay.refl _⟩
     ·intro ev X hT hb hk hf
      have e0 : ev (.tmp 26) = _ := hf.1
      exact OpOk.c (by simp [execOp, resolve, invoke, e0, hb.1, hb.2.1, go_sem]) (reduced_any (leN l) Hlt.out X (HO2.out.below hT))
     ·intro ev X hT hb hk hf
      have e0 : ev (.tmp 25) = _ := hf.1
      have e1 : ev (.tmp 27) = _ := hf.2.1
      exact OpOk.run (v := .bool true) (W' := X) (by
       unfold execOp
       simp only [e0, e1, Sem.run_bind, run_eqGuard_agg X _ _ _ _ _ _ Hgd.out, run_neq_struct, HQ2.out X, Result.andThen_ok]
       rfl) ⟨rfl, Stay.refl _⟩
    intro X hT
    rintro _ - _ - _ - _ rfl
    have gR := (hT.block _ (by simpa using lR)).trans GR.out
    have HBX := hide (HBw.out.trans (hT.mono HBw.out.size))
    clear hT
    go_wp2
    refine Rest.done ?_
    have HsR := H00.out
    have hone := Hone.out
    have hb0 : ∀ w, (Instr.build 25 #[]).run Tryd.prog w = .ok (.agg Z4) w := fun w => by rw [← HZ.out, qz4]; kernel_rfl
    go_wp2_with (first
     | (refine wS gR HsR rfl hone ?_))
    refine bodyPost_ret (v := .tuple #[.agg Z4, .int .i64 7]) (results_cell_row_tmp Tryd.results52 _ _ (w.heap.size + 1) _ Z4 (0, 0) _ rfl (setRow_heap_same _ _ _ _ _ _ gR) hu rfl HsR (.int .i64 7) rfl) rfl ⟨by rw [HD.out], below_setRow HBX.out (by omega) _⟩
end Fe
end Go.Proofs.YtbplbdnofobbiaaDoor
