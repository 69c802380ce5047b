/- curve: the number that makes a point with another one. -/
import Derived.Test.YtbplbdnofobbiaaDoorCv9
set_option linter.unusedVariables false
set_option linter.unusedSimpArgs false
set_option maxRecDepth 100000
set_option maxHeartbeats 8000000
namespace Go.Proofs.YtbplbdnofobbiaaDoor
namespace Cv
open Fe
open Go.ChangeShapes Go.WideShapes Go.ChangeAt Go.RowKit
theorem aF_nat (y : Nat) (hy : y < P5) : Ed.aF y = (y * y % P5 + (P5 - 1)) % P5 * pwr ((Ed.dN * (y * y % P5) % P5 + 1) % P5) (P5 - 2) 256 % P5 := by
 unfold Ed.aF Ed.uF
 rw [Ed.val_mul, Ed.inv_val, Ed.val_sub, Ed.val_add, Ed.val_mul, Ed.val_mul, Ed.val_mul, Ed.one_val, Ed.d5_val, Ed.el_val y hy]
theorem rootV_is (a : Nat) : ∃ r b, rootV a = .tuple #[.agg (q4 r), .bool b] := by
 rw [rootV_if]
 split
 ·exact ⟨_, _, rfl⟩
 ·exact ⟨_, _, rfl⟩
theorem xof_any (y : Nat) (hy : y < P5) (w : World) (hT : TabC w) (hD : TabD w) :
  Calls Tryd.prog 53 #[.agg (q4 y)] w fun e w' => e = .returned (rootV (Ed.aF y)) ∧ Below w.heap.size w w' := by
 rw [aF_nat y hy]
 have h4 := P5_lt
 have hu := Tryd.underlying25
 have hzE := eZero
 have h0 := ((on_all w).alloc (.cells (q4 y) 25)).alloc (.cells (q4 0) 25)
 have s0 := ((Str.refl w).alloc (.cells (q4 y) 25)).alloc (.cells (q4 0) 25)
 try simp only [World.size_alloc] at h0
 have H1 := hide h0
 have S1 := hide s0
 clear h0 s0
 have Hs1 := hide (fun X => small_any 1 (by decide) X)
 have b1 : 1 < P5 := by decide
 have bd : Ed.dN < P5 := by decide
 have Hdd : Hid (∀ X, TabD X → ∀ j v, (q4 Ed.dN)[j]? = some v → X.cell? ⟨4, 0 + j, .none⟩ = some v) := hide (fun X h => h.d.part)
 generalize Ed.dN = d at *
 have k1 := mul_two y y hy hy
 have bs : y * y % P5 < P5 := Nat.mod_lt _ P5_pos
 generalize hes : y * y % P5 = s at *
 have Hes := hide hes
 clear hes
 have k2 := mul_two d s bd bs
 have bds : d * s % P5 < P5 := Nat.mod_lt _ P5_pos
 generalize heds : d * s % P5 = ds at *
 have Heds := hide heds
 clear heds
 have k3 := add_two ds 1 bds b1
 have bu : (ds + 1) % P5 < P5 := Nat.mod_lt _ P5_pos
 generalize heu : (ds + 1) % P5 = u at *
 have Heu := hide heu
 clear heu
 have k4 := fun X h => sub_any s 1 bs b1 X h
 have bt : (s + (P5 - 1)) % P5 < P5 := Nat.mod_lt _ P5_pos
 generalize het : (s + (P5 - 1)) % P5 = t at *
 have Het := hide het
 clear het
 have k5 := fun X h1 h2 => invert_any u (by omega) X h1 h2
 have bvi := pwr_lt u (P5 - 2) 256
 generalize hev : pwr u (P5 - 2) 256 = vi at *
 have Hev := hide hev
 clear hev
 have k6 := mul_two t vi bt bvi
 have ba : t * vi % P5 < P5 := Nat.mod_lt _ P5_pos
 generalize hea : t * vi % P5 = a at *
 have Hea := hide hea
 clear hea
 have k7 := fun X h hr => root_any a ba X h hr
 obtain ⟨r, b, hrb⟩ := rootV_is a
 rw [hrb] at k7
 rw [hrb]
 have Hrb := hide hrb
 have hk1 := hide k1
 have hk2 := hide k2
 have hk3 := hide k3
 have hk4 := hide k4
 have hk5 := hide k5
 have hk6 := hide k6
 have hk7 := hide k7
 have hb1 := hide (fun X => run_bs2 y y X)
 have hb2 := hide (fun X => run_bs2 d s X)
 have hb3 := hide (fun X => run_bs2 ds 1 X)
 have hb4 := hide (fun X => run_bs2 t vi X)
 have hTab := hide hT
 have hTabD := hide hD
 obtain ⟨HsY4, HoY4, HzY4⟩ := eF y
 obtain ⟨HsI4, HoI4, HzI4⟩ := eF 1
 obtain ⟨HsSQ, HoSQ, HzSQ⟩ := eF s
 obtain ⟨HsD4, HoD4, HzD4⟩ := eF d
 obtain ⟨HsDS, HoDS, HzDS⟩ := eF ds
 obtain ⟨HsU4, HoU4, HzU4⟩ := eF u
 obtain ⟨HsTT, HoTT, HzTT⟩ := eF t
 obtain ⟨HsV4, HoV4, HzV4⟩ := eF vi
 obtain ⟨HsA4, HoA4, HzA4⟩ := eF a
 obtain ⟨HsR4, HoR4, HzR4⟩ := eF r
 clear k1 k2 k3 k4 k5 k6 k7 b1 bd bs bds bu bt bvi ba hrb hy h4
 generalize q4 y = Y4 at *
 generalize q4 1 = I4 at *
 generalize q4 s = SQ at *
 generalize q4 d = D4 at *
 generalize q4 ds = DS at *
 generalize q4 u = U4 at *
 generalize q4 t = TT at *
 generalize q4 vi = V4 at *
 generalize q4 a = A4 at *
 generalize q4 r = R4 at *
 generalize q4 0 = Z4 at *
 go_enter Tryd.func53, Tryd.ntmps53
 refine wp_seq_h fun K1 hK1 => ?_
 go_wp2_with fail
 refine hK1.out _ _ ?_
 clear hK1 K1
 generalize (w.alloc (.cells Y4 25)).alloc (.cells Z4 25) = w1 at *
 refine wp_seq_h fun K2 hK2 => ?_
 have hT0 := hide (hTab.out.below (all_below H1.out.right.right S1.out))
 have hD0 := hide (hTabD.out.below (all_below H1.out.right.right S1.out))
 refine wp_region_seq 2 [isV (.agg I4), Fresh w1.heap.size (.cells Z4 25 (0, 0))]
  (by simp only [List.take_succ_cons, List.take_zero]; rfl) (by simp only [List.drop_succ_cons, List.drop_zero]; rfl) (by kernel_rfl) (by kernel_rfl) (by kernel_rfl) (by decide) rfl ?keep ?todo ?r11
 case keep => exact ⟨Keep.isV _, Fresh.keep, trivial⟩
 case todo =>
  refine ⟨?_, ?_, trivial⟩
  ·intro ev X hT hb hk hf
   exact OpOk.c (by simp [execOp, resolve, invoke, hb.1, hb.2.1, go_sem]) (Hs1.out X)
  ·intro ev X hT hb hk hf
   exact OpOk.al hT.size (by simp [execOp, hzE, go_sem])
 intro w2 hX
 rintro _ rfl _ ⟨g4, rfl, hgg4, hcg4⟩
 have H2 := hide (on_fresh H1.out hX hgg4 hcg4)
 have S2 := hide (S1.out.trans (Str.below hX))
 clear hX H1 S1 hgg4 hcg4
 clear hT0
 clear hD0
 go_wp2
 refine Rest.done ?_
 have H3 := hide (st0 H2.out (cs := I4))
 have S3 := hide (S2.out.setRow (g4) I4)
 have gW := on_blk_mul H2.out
 go_wp2_with (first
  | (refine wS gW HsI4 HzI4 HoI4 ?_))
 refine hK2.out _ _ ?_
 clear hK2 K2
 generalize w2.setRow (g4) I4 = w3 at *
 clear gW H2 S2
 refine wp_seq_h fun K3 hK3 => ?_
 have hT0 := hide (hTab.out.below (all_below H3.out.right.right.right S3.out))
 have hD0 := hide (hTabD.out.below (all_below H3.out.right.right.right S3.out))
 refine wp_region_seq 5 [isV (.agg Y4), isV (.agg Y4), fun v X => IsEl X v [y, y], isV (.agg SQ), Fresh w3.heap.size (.cells Z4 25 (0, 0))]
  (by simp only [List.take_succ_cons, List.take_zero]; rfl) (by simp only [List.drop_succ_cons, List.drop_zero]; rfl) (by kernel_rfl) (by kernel_rfl) (by kernel_rfl) (by decide) rfl ?keep ?todo ?r12
 case keep => exact ⟨Keep.isV _, Keep.isV _, fun _ _ _ h k => IsEl.below h k, Keep.isV _, Fresh.keep, trivial⟩
 case todo =>
  refine ⟨?_, ?_, ?_, ?_, ?_, trivial⟩
  ·exact fun ev X hT hb hk hf => OpOk.l (x := .tmp 1) hk.1 (on_blk_mul (H3.out.below hT).right.right) hu HsY4.out
  ·exact fun ev X hT hb hk hf => OpOk.l (x := .tmp 1) hk.1 (on_blk_mul (H3.out.below hT).right.right) hu HsY4.out
  ·intro ev X hT hb hk hf
   have e0 : ev (.tmp 8) = _ := hf.1
   have e1 : ev (.tmp 9) = _ := hf.2.1
   exact OpOk.run (v := .slice (some ⟨X.heap.size, 0, .none⟩) 2 2) (W' := X.alloc (.cells #[lv (limb y 0), lv (limb y 1), lv (limb y 2), lv (limb y 3), lv (limb y 0), lv (limb y 1), lv (limb y 2), lv (limb y 3)] 25)) (by simp [execOp, e0, e1, hb1.out X]) ⟨IsEl.two (heap_alloc_new X _), (Below.refl X.heap.size X).alloc (Nat.le_refl _) _⟩
  ·intro ev X hT hb hk hf
   have e0 : IsEl X (ev (.tmp 10)) [y, y] := hf.1
   exact OpOk.c (by simp [execOp, resolve, invoke, hb.1, hb.2.1, go_sem]) (hk1.out _ X e0 (hT0.out.below hT).f)
  ·intro ev X hT hb hk hf
   exact OpOk.al hT.size (by simp [execOp, hzE, go_sem])
 intro w4 hX
 rintro _ rfl _ rfl _ - _ rfl _ ⟨g5, rfl, hgg5, hcg5⟩
 have H4 := hide (on_fresh H3.out hX hgg5 hcg5)
 have S4 := hide (S3.out.trans (Str.below hX))
 clear hX H3 S3 hgg5 hcg5
 clear hT0
 clear hD0
 go_wp2
 refine Rest.done ?_
 have H5 := hide (st0 H4.out (cs := SQ))
 have S5 := hide (S4.out.setRow (g5) SQ)
 have gW := on_blk_mul H4.out
 go_wp2_with (first
  | (refine wS gW HsSQ HzSQ HoSQ ?_))
 refine hK3.out _ _ ?_
 clear hK3 K3
 generalize w4.setRow (g5) SQ = w5 at *
 clear gW H4 S4
 refine wp_seq_h fun K4 hK4 => ?_
 have hT0 := hide (hTab.out.below (all_below H5.out.right.right.right.right S5.out))
 have hD0 := hide (hTabD.out.below (all_below H5.out.right.right.right.right S5.out))
 refine wp_tail 8 [isV (.agg D4), isV (.agg SQ), fun v X => IsEl X v [d, s], isV (.agg DS), isV (.agg I4), fun v X => IsEl X v [ds, 1], isV (.agg U4), Fresh w5.heap.size (.cells Z4 25 (0, 0))] ?keep ?todo ?r13
 case keep => exact ⟨Keep.isV _, Keep.isV _, fun _ _ _ h k => IsEl.below h k, Keep.isV _, Keep.isV _, fun _ _ _ h k => IsEl.below h k, Keep.isV _, Fresh.keep, trivial⟩
 case todo =>
  refine ⟨?_, ?_, ?_, ?_, ?_, ?_, ?_, ?_, trivial⟩
  ·intro ev X hT hb hk hf
   exact OpOk.load_part _ _ rfl 4 0 (hb.2.2 _) D4 _ (fun j v hv => Hdd.out X (hD0.out.below hT) j v hv) hu rfl HsD4.out ⟨rfl, Stay.refl _⟩
  ·exact fun ev X hT hb hk hf => OpOk.l (x := .tmp 5) hk.1 (on_blk_mul (H5.out.below hT)) hu HsSQ.out
  ·intro ev X hT hb hk hf
   have e0 : ev (.tmp 12) = _ := hf.1
   have e1 : ev (.tmp 13) = _ := hf.2.1
   exact OpOk.run (v := .slice (some ⟨X.heap.size, 0, .none⟩) 2 2) (W' := X.alloc (.cells #[lv (limb d 0), lv (limb d 1), lv (limb d 2), lv (limb d 3), lv (limb s 0), lv (limb s 1), lv (limb s 2), lv (limb s 3)] 25)) (by simp [execOp, e0, e1, hb2.out X]) ⟨IsEl.two (heap_alloc_new X _), (Below.refl X.heap.size X).alloc (Nat.le_refl _) _⟩
  ·intro ev X hT hb hk hf
   have e0 : IsEl X (ev (.tmp 14)) [d, s] := hf.1
   exact OpOk.c (by simp [execOp, resolve, invoke, hb.1, hb.2.1, go_sem]) (hk2.out _ X e0 (hT0.out.below hT).f)
  ·exact fun ev X hT hb hk hf => OpOk.l (x := .tmp 4) hk.1 (on_blk_mul (H5.out.below hT).right) hu HsI4.out
  ·intro ev X hT hb hk hf
   have e0 : ev (.tmp 15) = _ := hf.1
   have e1 : ev (.tmp 16) = _ := hf.2.1
   exact OpOk.run (v := .slice (some ⟨X.heap.size, 0, .none⟩) 2 2) (W' := X.alloc (.cells #[lv (limb ds 0), lv (limb ds 1), lv (limb ds 2), lv (limb ds 3), lv (limb 1 0), lv (limb 1 1), lv (limb 1 2), lv (limb 1 3)] 25)) (by simp [execOp, e0, e1, hb3.out X]) ⟨IsEl.two (heap_alloc_new X _), (Below.refl X.heap.size X).alloc (Nat.le_refl _) _⟩
  ·intro ev X hT hb hk hf
   have e0 : IsEl X (ev (.tmp 17)) [ds, 1] := hf.1
   exact OpOk.c (by simp [execOp, resolve, invoke, hb.1, hb.2.1, go_sem]) (hk3.out _ X e0 (hT0.out.below hT).f)
  ·intro ev X hT hb hk hf
   exact OpOk.al hT.size (by simp [execOp, hzE, go_sem])
 intro w6 hX
 rintro _ rfl _ rfl _ - _ rfl _ rfl _ - _ rfl _ ⟨g6, rfl, hgg6, hcg6⟩
 have H6 := hide (on_fresh H5.out hX hgg6 hcg6)
 have S6 := hide (S5.out.trans (Str.below hX))
 clear hX H5 S5 hgg6 hcg6
 clear hT0
 clear hD0
 go_wp2
 refine Rest.done ?_
 have H7 := hide (st0 H6.out (cs := U4))
 have S7 := hide (S6.out.setRow (g6) U4)
 have gW := on_blk_mul H6.out
 go_wp2_with (first
  | (refine wS gW HsU4 HzU4 HoU4 ?_))
 refine hK4.out _ _ ?_
 clear hK4 K4
 generalize w6.setRow (g6) U4 = w7 at *
 clear gW H6 S6
 refine wp_seq_h fun K5 hK5 => ?_
 have hT0 := hide (hTab.out.below (all_below H7.out.right.right.right.right.right S7.out))
 have hD0 := hide (hTabD.out.below (all_below H7.out.right.right.right.right.right S7.out))
 refine wp_tail 10 [isV (.agg SQ), isV (.agg I4), isV (.agg TT), isV (.agg U4), isV (.agg V4), fun v X => IsEl X v [t, vi], isV (.agg A4), isV (.tuple #[.agg R4, .bool b]), isV (.agg R4), isV (.bool b)] ?keep ?todo ?r14
 case keep => exact ⟨Keep.isV _, Keep.isV _, Keep.isV _, Keep.isV _, Keep.isV _, fun _ _ _ h k => IsEl.below h k, Keep.isV _, Keep.isV _, Keep.isV _, Keep.isV _, trivial⟩
 case todo =>
  refine ⟨?_, ?_, ?_, ?_, ?_, ?_, ?_, ?_, ?_, ?_, trivial⟩
  ·exact fun ev X hT hb hk hf => OpOk.l (x := .tmp 5) hk.1 (on_blk_mul (H7.out.below hT).right) hu HsSQ.out
  ·exact fun ev X hT hb hk hf => OpOk.l (x := .tmp 4) hk.1 (on_blk_mul (H7.out.below hT).right.right) hu HsI4.out
  ·intro ev X hT hb hk hf
   have e0 : ev (.tmp 19) = _ := hf.1
   have e1 : ev (.tmp 20) = _ := hf.2.1
   exact OpOk.c (by simp [execOp, resolve, invoke, e0, e1, hb.1, hb.2.1, go_sem]) (hk4.out X (hT0.out.below hT).f)
  ·exact fun ev X hT hb hk hf => OpOk.l (x := .tmp 6) hk.1 (on_blk_mul (H7.out.below hT)) hu HsU4.out
  ·intro ev X hT hb hk hf
   have e0 : ev (.tmp 22) = _ := hf.1
   refine OpOk.enters (f := 76) (args := #[.agg U4]) (W' := X) (by simp [execOp, resolve, invoke, e0, hb.1, hb.2.1, go_sem]) ((hk5.out X (hT0.out.below hT).f (hT0.out.below hT).l).mono ?_)
   rintro e _ ⟨rfl, hB⟩
   exact ⟨_, rfl, rfl, hB⟩
  ·intro ev X hT hb hk hf
   have e0 : ev (.tmp 21) = _ := hf.1
   have e1 : ev (.tmp 23) = _ := hf.2.1
   exact OpOk.run (v := .slice (some ⟨X.heap.size, 0, .none⟩) 2 2) (W' := X.alloc (.cells #[lv (limb t 0), lv (limb t 1), lv (limb t 2), lv (limb t 3), lv (limb vi 0), lv (limb vi 1), lv (limb vi 2), lv (limb vi 3)] 25)) (by simp [execOp, e0, e1, hb4.out X]) ⟨IsEl.two (heap_alloc_new X _), (Below.refl X.heap.size X).alloc (Nat.le_refl _) _⟩
  ·intro ev X hT hb hk hf
   have e0 : IsEl X (ev (.tmp 24)) [t, vi] := hf.1
   exact OpOk.c (by simp [execOp, resolve, invoke, hb.1, hb.2.1, go_sem]) (hk6.out _ X e0 (hT0.out.below hT).f)
  ·intro ev X hT hb hk hf
   have e0 : ev (.tmp 25) = _ := hf.1
   refine OpOk.enters (f := 82) (args := #[.agg A4]) (W' := X) (by simp [execOp, resolve, invoke, e0, hb.1, hb.2.1, go_sem]) ((hk7.out X (hT0.out.below hT).f (hD0.out.below hT).r).mono ?_)
   rintro e _ ⟨rfl, hB⟩
   exact ⟨_, rfl, rfl, hB⟩
  ·intro ev X hT hb hk hf
   have e0 : ev (.tmp 26) = _ := hf.1
   exact OpOk.r (by simp [execOp, e0, hb.1, go_sem])
  ·intro ev X hT hb hk hf
   have e0 : ev (.tmp 26) = _ := hf.1
   exact OpOk.r (by simp [execOp, e0, hb.1, go_sem])
 intro w8 hX
 rintro _ rfl _ rfl _ rfl _ rfl _ rfl _ - _ rfl _ rfl _ rfl _ rfl
 obtain ⟨H8, S8⟩ := nx H7.out S7.out hX
 clear hX H7 S7
 clear hT0
 clear hD0
 go_wp2
 refine Rest.done ?_
 have gR := on_blk_mul H8.out.right.right.right
 have HB := hide (all_below H8.out.right.right.right.right.right S8.out)
 go_wp2_with (first
  | (refine wS gR HsR4 HzR4 HoR4 ?_))
 refine hK5.out _ _ ?_
 clear hK5 K5
 go_wp2_with fail
 exact retT Tryd.results53 gR hu HsR4.out rfl (.bool b) (rfl) HB.out (by omega)
end Cv
end Go.Proofs.YtbplbdnofobbiaaDoor
