/- A part. -/
import Derived.Test.YtjdebgbiockafaaGreatDoorGCvA
set_option linter.unusedVariables false
set_option linter.unusedSimpArgs false
set_option maxRecDepth 100000
set_option maxHeartbeats 8000000
namespace Go.Proofs.YtjdebgbiockafaaGreatDoor
namespace Cv
open Fe
open Go.ChangeShapes Go.WideShapes Go.ChangeAt Go.RowKit
theorem aF_nat (y : Nat) (hy : y < P5) : Ed.aF y = (y * y % P5 + (P5 - 1)) % P5 * pwr ((Ed.dN * (y * y % P5) % P5 + 1) % P5) (P5 - 2) 256 % P5 := by
 unfold Ed.aF Ed.uF
 rw [Ed.val_mul, Ed.inv_val, Ed.val_sub, Ed.val_add, Ed.val_mul, Ed.val_mul, Ed.val_mul, Ed.one_val, Ed.d5_val, Ed.el_val y hy]
theorem rootV_is (a : Nat) : ∃ r b, rootV a = .tuple #[.agg (q4 r), .bool b] := by
 rw [rootV_if]
 split
 ·exact ⟨_, _, rfl⟩
 exact ⟨_, _, rfl⟩
theorem xof_any (y : Nat) (hy : y < P5) (w : World) (hT : TabC w) (hD : TabD w) :
  Calls Tryz.prog 86 #[.agg (q4 y)] w fun e w' => e = .returned (rootV (Ed.aF y)) ∧ Below w.heap.size w w' := by
 rw [aF_nat y hy]
 have h4 := P5_lt
 have hu := Tryz.underlying126
 have hzE := eZero
 have h0 := ((on_all w).alloc (.cells (q4 y) 126)).alloc (.cells (q4 0) 126)
 have s0 := ((Str.refl w).alloc (.cells (q4 y) 126)).alloc (.cells (q4 0) 126)
 try simp only [World.size_alloc] at h0
 have H1 := hide h0
 have S1 := hide s0
 clear h0 s0
 have Hs1 := hide (fun X => small_any 1 (by decide) X)
 have b1 : 1 < P5 := by decide
 have bd : Ed.dN < P5 := by decide
 have Hdd : Hid (∀ X, TabD X → ∀ j v, (q4 Ed.dN)[j]? = some v → X.cell? ⟨3, 0 + j, .none⟩ = some v) := hide (fun X h => h.d.part)
 generalize Ed.dN = d at *
 have k1 := mul_two y y hy hy
 have bs : y * y % P5 < P5 := Nat.mod_lt _ P5_pos
 generalize hes : y * y % P5 = s at *
 have Hes := hide hes
 clear hes
 have k2 := mul_two d s bd bs
 have bds : d * s % P5 < P5 := Nat.mod_lt _ P5_pos
 generalize heds : d * s % P5 = ds at *
 have Heds := hide heds
 clear heds
 have k3 := add_two ds 1 bds b1
 have bu : (ds + 1) % P5 < P5 := Nat.mod_lt _ P5_pos
 generalize heu : (ds + 1) % P5 = u at *
 have Heu := hide heu
 clear heu
 have k4 := fun X h => sub_any s 1 bs b1 X h
 have bt : (s + (P5 - 1)) % P5 < P5 := Nat.mod_lt _ P5_pos
 generalize het : (s + (P5 - 1)) % P5 = t at *
 have Het := hide het
 clear het
 have k5 := fun X h1 h2 => invert_any u (by omega) X h1 h2
 have bvi := pwr_lt u (P5 - 2) 256
 generalize hev : pwr u (P5 - 2) 256 = vi at *
 have Hev := hide hev
 clear hev
 have k6 := mul_two t vi bt bvi
 have ba : t * vi % P5 < P5 := Nat.mod_lt _ P5_pos
 generalize hea : t * vi % P5 = a at *
 have Hea := hide hea
 clear hea
 have k7 := fun X h hr => root_any a ba X h hr
 obtain ⟨r, b, hrb⟩ := rootV_is a
 rw [hrb] at k7
 rw [hrb]
 have Hrb := hide hrb
 have hk1 := hide k1
 have hk2 := hide k2
 have hk3 := hide k3
 have hk4 := hide k4
 have hk5 := hide k5
 have hk6 := hide k6
 have hk7 := hide k7
 have hb1 := hide (fun X => run_bs2 y y X)
 have hb2 := hide (fun X => run_bs2 d s X)
 have hb3 := hide (fun X => run_bs2 ds 1 X)
 have hb4 := hide (fun X => run_bs2 t vi X)
 have hTab := hide hT
 have hTabD := hide hD
 obtain ⟨HsY4, HoY4, HzY4⟩ := eF y
 obtain ⟨HsI4, HoI4, HzI4⟩ := eF 1
 obtain ⟨HsSQ, HoSQ, HzSQ⟩ := eF s
 obtain ⟨HsD4, HoD4, HzD4⟩ := eF d
 obtain ⟨HsDS, HoDS, HzDS⟩ := eF ds
 obtain ⟨HsU4, HoU4, HzU4⟩ := eF u
 obtain ⟨HsTT, HoTT, HzTT⟩ := eF t
 obtain ⟨HsV4, HoV4, HzV4⟩ := eF vi
 obtain ⟨HsA4, HoA4, HzA4⟩ := eF a
 obtain ⟨HsR4, HoR4, HzR4⟩ := eF r
 clear k1 k2 k3 k4 k5 k6 k7 b1 bd bs bds bu bt bvi ba hrb hy h4
 generalize q4 y = Y4 at *
 generalize q4 1 = I4 at *
 generalize q4 s = SQ at *
 generalize q4 d = D4 at *
 generalize q4 ds = DS at *
 generalize q4 u = U4 at *
 generalize q4 t = TT at *
 generalize q4 vi = V4 at *
 generalize q4 a = A4 at *
 generalize q4 r = R4 at *
 generalize q4 0 = Z4 at *
 go_enter Tryz.func86, Tryz.ntmps86
 refine wp_seq_h fun K1 hK1 => ?_
 go_wp2
 refine hK1.out _ _ ?_
 clear hK1 K1
 generalize (w.alloc (.cells Y4 126)).alloc (.cells Z4 126) = w1 at *
 refine wp_seq_h fun K2 hK2 => ?_
 have hT0 := hide (hTab.out.below (all_below H1.out.right.right S1.out))
 have hD0 := hide (hTabD.out.below (all_below H1.out.right.right S1.out))
 refine sQ 2 [isV (.agg I4), Fresh w1.heap.size (.cells Z4 126 (0, 0))] ?t11 ?r11
 case' t11 => refine ⟨?_, ?_, trivial⟩ <;> intro ev X hT hb hk hf
 ·exact OpOk.c0 hb (Hs1.out X)
 ·exact OpOk.al hT.size (by simp [execOp, hzE, go_sem])
 intro w2 hX
 rintro _ rfl _ ⟨g4, rfl, hgg4, hcg4⟩
 have H2 := hide (on_fresh H1.out hX hgg4 hcg4)
 have S2 := hide (S1.out.trans (Str.below hX))
 clear hX H1 S1 hgg4 hcg4
 clear hT0
 clear hD0
 go_wp2
 refine Rest.done ?_
 have H3 := hide (st0 H2.out (cs := I4))
 have S3 := hide (S2.out.setRow (g4) I4)
 have gW := on_blk_mul H2.out
 go_wp2_with (first
  | (refine wS gW HsI4 HzI4 HoI4 ?_))
 refine hK2.out _ _ ?_
 clear hK2 K2
 generalize w2.setRow (g4) I4 = w3 at *
 clear gW H2 S2
 refine wp_seq_h fun K3 hK3 => ?_
 have hT0 := hide (hTab.out.below (all_below H3.out.right.right.right S3.out))
 have hD0 := hide (hTabD.out.below (all_below H3.out.right.right.right S3.out))
 refine sQ 5 [isV (.agg Y4), isV (.agg Y4), fun v X => IsEl X v [y, y], isV (.agg SQ), Fresh w3.heap.size (.cells Z4 126 (0, 0))] ?t12 ?r12 (hk := ?keep)
 case keep => exact ⟨Keep.isV _, Keep.isV _, fun _ _ _ h k => IsEl.below h k, Keep.isV _, Fresh.keep, trivial⟩
 case' t12 => refine ⟨?_, ?_, ?_, ?_, ?_, trivial⟩ <;> intro ev X hT hb hk hf
 ·exact OpOk.l (x := .tmp 1) hk.1 (on_blk_mul (H3.out.below hT).right.right) hu HsY4.out
 ·exact OpOk.l (x := .tmp 1) hk.1 (on_blk_mul (H3.out.below hT).right.right) hu HsY4.out
 ·exact OpOk.run (v := .slice (some ⟨X.heap.size, 0, .none⟩) 2 2) (W' := X.alloc (.cells #[lv (limb y 0), lv (limb y 1), lv (limb y 2), lv (limb y 3), lv (limb y 0), lv (limb y 1), lv (limb y 2), lv (limb y 3)] 126)) (by simp [execOp, fX ev 8 hf.1, fX ev 9 hf.2.1, hb1.out X]) ⟨IsEl.two (heap_alloc_new X _), (Below.refl X.heap.size X).alloc (Nat.le_refl _) _⟩
 ·have e0 : IsEl X (ev (.tmp 10)) [y, y] := hf.1
  exact OpOk.c0 hb (hk1.out _ X e0 (hT0.out.below hT).f)
 ·exact OpOk.al hT.size (by simp [execOp, hzE, go_sem])
 intro w4 hX
 rintro _ rfl _ rfl _ - _ rfl _ ⟨g5, rfl, hgg5, hcg5⟩
 have H4 := hide (on_fresh H3.out hX hgg5 hcg5)
 have S4 := hide (S3.out.trans (Str.below hX))
 clear hX H3 S3 hgg5 hcg5
 clear hT0
 clear hD0
 go_wp2
 refine Rest.done ?_
 have H5 := hide (st0 H4.out (cs := SQ))
 have S5 := hide (S4.out.setRow (g5) SQ)
 have gW := on_blk_mul H4.out
 go_wp2_with (first
  | (refine wS gW HsSQ HzSQ HoSQ ?_))
 refine hK3.out _ _ ?_
 clear hK3 K3
 generalize w4.setRow (g5) SQ = w5 at *
 clear gW H4 S4
 refine wp_seq_h fun K4 hK4 => ?_
 have hT0 := hide (hTab.out.below (all_below H5.out.right.right.right.right S5.out))
 have hD0 := hide (hTabD.out.below (all_below H5.out.right.right.right.right S5.out))
 refine wp_tail 8 [isV (.agg D4), isV (.agg SQ), fun v X => IsEl X v [d, s], isV (.agg DS), isV (.agg I4), fun v X => IsEl X v [ds, 1], isV (.agg U4), Fresh w5.heap.size (.cells Z4 126 (0, 0))] ?t13 ?r13 (hk := ?keep)
 case keep => exact ⟨Keep.isV _, Keep.isV _, fun _ _ _ h k => IsEl.below h k, Keep.isV _, Keep.isV _, fun _ _ _ h k => IsEl.below h k, Keep.isV _, Fresh.keep, trivial⟩
 case' t13 => refine ⟨?_, ?_, ?_, ?_, ?_, ?_, ?_, ?_, trivial⟩ <;> intro ev X hT hb hk hf
 ·exact OpOk.lp (hb.2.2 _) (fun j v hv => Hdd.out X (hD0.out.below hT) j v hv) hu HsD4.out
 ·exact OpOk.l (x := .tmp 5) hk.1 (on_blk_mul (H5.out.below hT)) hu HsSQ.out
 ·exact OpOk.run (v := .slice (some ⟨X.heap.size, 0, .none⟩) 2 2) (W' := X.alloc (.cells #[lv (limb d 0), lv (limb d 1), lv (limb d 2), lv (limb d 3), lv (limb s 0), lv (limb s 1), lv (limb s 2), lv (limb s 3)] 126)) (by simp [execOp, fX ev 12 hf.1, fX ev 13 hf.2.1, hb2.out X]) ⟨IsEl.two (heap_alloc_new X _), (Below.refl X.heap.size X).alloc (Nat.le_refl _) _⟩
 ·have e0 : IsEl X (ev (.tmp 14)) [d, s] := hf.1
  exact OpOk.c0 hb (hk2.out _ X e0 (hT0.out.below hT).f)
 ·exact OpOk.l (x := .tmp 4) hk.1 (on_blk_mul (H5.out.below hT).right) hu HsI4.out
 ·exact OpOk.run (v := .slice (some ⟨X.heap.size, 0, .none⟩) 2 2) (W' := X.alloc (.cells #[lv (limb ds 0), lv (limb ds 1), lv (limb ds 2), lv (limb ds 3), lv (limb 1 0), lv (limb 1 1), lv (limb 1 2), lv (limb 1 3)] 126)) (by simp [execOp, fX ev 15 hf.1, fX ev 16 hf.2.1, hb3.out X]) ⟨IsEl.two (heap_alloc_new X _), (Below.refl X.heap.size X).alloc (Nat.le_refl _) _⟩
 ·have e0 : IsEl X (ev (.tmp 17)) [ds, 1] := hf.1
  exact OpOk.c0 hb (hk3.out _ X e0 (hT0.out.below hT).f)
 ·exact OpOk.al hT.size (by simp [execOp, hzE, go_sem])
 intro w6 hX
 rintro _ rfl _ rfl _ - _ rfl _ rfl _ - _ rfl _ ⟨g6, rfl, hgg6, hcg6⟩
 have H6 := hide (on_fresh H5.out hX hgg6 hcg6)
 have S6 := hide (S5.out.trans (Str.below hX))
 clear hX H5 S5 hgg6 hcg6
 clear hT0
 clear hD0
 go_wp2
 refine Rest.done ?_
 have H7 := hide (st0 H6.out (cs := U4))
 have S7 := hide (S6.out.setRow (g6) U4)
 have gW := on_blk_mul H6.out
 go_wp2_with (first
  | (refine wS gW HsU4 HzU4 HoU4 ?_))
 refine hK4.out _ _ ?_
 clear hK4 K4
 generalize w6.setRow (g6) U4 = w7 at *
 clear gW H6 S6
 refine wp_seq_h fun K5 hK5 => ?_
 have hT0 := hide (hTab.out.below (all_below H7.out.right.right.right.right.right S7.out))
 have hD0 := hide (hTabD.out.below (all_below H7.out.right.right.right.right.right S7.out))
 refine wp_tail 10 [isV (.agg SQ), isV (.agg I4), isV (.agg TT), isV (.agg U4), isV (.agg V4), fun v X => IsEl X v [t, vi], isV (.agg A4), isV (.tuple #[.agg R4, .bool b]), isV (.agg R4), isV (.bool b)] ?t14 ?r14 (hk := ?keep)
 case keep => exact ⟨Keep.isV _, Keep.isV _, Keep.isV _, Keep.isV _, Keep.isV _, fun _ _ _ h k => IsEl.below h k, Keep.isV _, Keep.isV _, Keep.isV _, Keep.isV _, trivial⟩
 case' t14 => refine ⟨?_, ?_, ?_, ?_, ?_, ?_, ?_, ?_, ?_, ?_, trivial⟩ <;> intro ev X hT hb hk hf
 ·exact OpOk.l (x := .tmp 5) hk.1 (on_blk_mul (H7.out.below hT).right) hu HsSQ.out
 ·exact OpOk.l (x := .tmp 4) hk.1 (on_blk_mul (H7.out.below hT).right.right) hu HsI4.out
 ·exact OpOk.c2 (fX ev 19 hf.1) (fX ev 20 hf.2.1) hb (hk4.out X (hT0.out.below hT).f)
 ·exact OpOk.l (x := .tmp 6) hk.1 (on_blk_mul (H7.out.below hT)) hu HsU4.out
 ·refine OpOk.enters (f := 102) (args := #[.agg U4]) (W' := X) (by simp [execOp, resolve, invoke, fX ev 22 hf.1, hb.1, hb.2.1, go_sem]) ((hk5.out X (hT0.out.below hT).f (hT0.out.below hT).l).mono ?_)
  rintro e _ ⟨rfl, hB⟩
  exact ⟨_, rfl, rfl, hB⟩
 ·exact OpOk.run (v := .slice (some ⟨X.heap.size, 0, .none⟩) 2 2) (W' := X.alloc (.cells #[lv (limb t 0), lv (limb t 1), lv (limb t 2), lv (limb t 3), lv (limb vi 0), lv (limb vi 1), lv (limb vi 2), lv (limb vi 3)] 126)) (by simp [execOp, fX ev 21 hf.1, fX ev 23 hf.2.1, hb4.out X]) ⟨IsEl.two (heap_alloc_new X _), (Below.refl X.heap.size X).alloc (Nat.le_refl _) _⟩
 ·have e0 : IsEl X (ev (.tmp 24)) [t, vi] := hf.1
  exact OpOk.c0 hb (hk6.out _ X e0 (hT0.out.below hT).f)
 ·refine OpOk.enters (f := 103) (args := #[.agg A4]) (W' := X) (by simp [execOp, resolve, invoke, fX ev 25 hf.1, hb.1, hb.2.1, go_sem]) ((hk7.out X (hT0.out.below hT).f (hD0.out.below hT).r).mono ?_)
  rintro e _ ⟨rfl, hB⟩
  exact ⟨_, rfl, rfl, hB⟩
 ·exact OpOk.s (fX ev 26 hf.1) hb
 ·exact OpOk.s (fX ev 26 hf.1) hb
 intro w8 hX
 rintro _ rfl _ rfl _ rfl _ rfl _ rfl _ - _ rfl _ rfl _ rfl _ rfl
 obtain ⟨H8, S8⟩ := nx H7.out S7.out hX
 clear hX H7 S7
 clear hT0
 clear hD0
 go_wp2
 refine Rest.done ?_
 have gR := on_blk_mul H8.out.right.right.right
 have HB := hide (all_below H8.out.right.right.right.right.right S8.out)
 go_wp2_with (first
  | (refine wS gR HsR4 HzR4 HoR4 ?_))
 refine hK5.out _ _ ?_
 clear hK5 K5
 go_wp2
 exact retT Tryz.results86 gR hu HsR4.out rfl (.bool b) (rfl) HB.out (by omega)
def decV (n : Nat) : Value := match Ed.decPt (bl n) with | some p => .tuple #[.agg (ptC p), .int .i64 0] | Option.none => .tuple #[.agg (pC 0 0), .int .i64 7]
theorem decV_bad (n : Nat) (h : ¬ Ed.isPt (bl n) = true) : decV n = .tuple #[.agg (pC 0 0), .int .i64 7] := by
 unfold decV; rw [Ed.decPt_none _ h]
theorem decV_good (n : Nat) (h : Ed.isPt (bl n) = true) : decV n = .tuple #[.agg (pC (Ed.xB (bl n)) (Ed.yB (bl n))), .int .i64 0] := by
 unfold decV; rw [Ed.decPt_some _ h]
 show Value.tuple #[.agg (pC (Ed.el (Ed.xB (bl n))).val (Ed.el (Ed.yB (bl n))).val), .int .i64 0] = _
 rw [Ed.el_val _ (Ed.xB_ok _ h).1, Ed.el_val _ ((Ed.isPt_iff _).1 h).1]
theorem yB_bl (n : Nat) (h : n < 256 ^ 32) : Ed.yB (bl n) = n % 2 ^ 255 := by unfold Ed.yB; rw [leN_bl n h]
theorem oddB_bl (n : Nat) (h : n < 256 ^ 32) : Ed.oddB (bl n) = decide (2 ^ 255 ≤ n) := by unfold Ed.oddB; rw [leN_bl n h]
theorem even_zero (a : Nat) (ha : a < P5) (h : root2 a * root2 a % P5 = a) : evenR (root2 a) = 0 ↔ a = 0 := by
 obtain ⟨l1, e1, s1⟩ := evenR_ok (root2 a) (root2_lt a)
 rw [h] at s1
 generalize evenR (root2 a) = r at *
 clear h
 constructor
 ·intro e
  subst e
  rw [Nat.zero_mul] at s1
  exact s1.symm.trans (Nat.zero_mod _)
 intro e
 subst e
 exact Ed.sq_zero _ l1 s1
theorem dec_far (n : Nat) (hn : n < 256 ^ 32) (h : ¬ n % 2 ^ 255 < P5) : decV n = .tuple #[.agg (pC 0 0), .int .i64 7] :=
 decV_bad n (fun hp => h (by have := ((Ed.isPt_iff _).1 hp).1; rwa [yB_bl n hn] at this))
theorem dec_no (n : Nat) (hn : n < 256 ^ 32) (h : ¬ root2 (Ed.aF (n % 2 ^ 255)) * root2 (Ed.aF (n % 2 ^ 255)) % P5 = Ed.aF (n % 2 ^ 255)) : decV n = .tuple #[.agg (pC 0 0), .int .i64 7] :=
 decV_bad n (fun hp => h (by have := ((Ed.isPt_iff _).1 hp).2.1; rwa [yB_bl n hn] at this))
theorem dec_zero (n : Nat) (hn : n < 256 ^ 32) (hr : root2 (Ed.aF (n % 2 ^ 255)) * root2 (Ed.aF (n % 2 ^ 255)) % P5 = Ed.aF (n % 2 ^ 255)) (ho : decide (2 ^ 255 ≤ n) = true) (h : evenR (root2 (Ed.aF (n % 2 ^ 255))) = 0) : decV n = .tuple #[.agg (pC 0 0), .int .i64 7] :=
 decV_bad n (fun hp => by
  have := ((Ed.isPt_iff _).1 hp).2.2
  rw [yB_bl n hn, oddB_bl n hn] at this
  exact this ⟨ho, (even_zero _ (Ed.aF_lt _) hr).1 h⟩)
theorem dec_ok (n : Nat) (hn : n < 256 ^ 32) (hy : n % 2 ^ 255 < P5) (hr : root2 (Ed.aF (n % 2 ^ 255)) * root2 (Ed.aF (n % 2 ^ 255)) % P5 = Ed.aF (n % 2 ^ 255)) (h : ¬ (decide (2 ^ 255 ≤ n) = true ∧ evenR (root2 (Ed.aF (n % 2 ^ 255))) = 0)) :
  decV n = .tuple #[.agg (pC (Ed.turnP (evenR (root2 (Ed.aF (n % 2 ^ 255)))) (decide (2 ^ 255 ≤ n))) (n % 2 ^ 255)), .int .i64 0] := by
 have hp : Ed.isPt (bl n) = true := (Ed.isPt_iff _).2 (by
  rw [yB_bl n hn, oddB_bl n hn]
  exact ⟨hy, hr, fun h2 => h ⟨h2.1, (even_zero _ (Ed.aF_lt _) hr).2 h2.2⟩⟩)
 rw [decV_good n hp]
 unfold Ed.xB
 rw [yB_bl n hn, oddB_bl n hn]
theorem odd_top (n : Nat) (hn : n < 256 ^ 32) : decide (128 ≤ tB n) = decide (2 ^ 255 ≤ n) := by
 have h1 := P31
 have h2 := P31_pos
 unfold tB
 generalize 256 ^ 31 = K at *
 generalize 2 ^ 255 = M at *
 subst h1
 rw [Bool.eq_iff_iff, decide_eq_true_iff, decide_eq_true_iff, Nat.le_div_iff_mul_le h2]
theorem fdec (y : Nat) (h : y < 256 ^ 32) (w : World) (hT : Tab5 w) :
  Calls Tryz.prog 85 #[.agg (zB y)] w fun e w' => e = .returned (if y < P5 then .tuple #[.agg (q4 y), .int .i64 0] else .tuple #[.agg (q4 0), .int .i64 7]) ∧ Below w.heap.size w w' := by
 have := Fe.decode_any (bl y) (bl_len y) w hT
 unfold decE at this
 rw [leN_bl y h] at this
 exact this
theorem load_row_w {P : Program} {ops : Array Oper} {rest : List Oper} {o : Oper} {a : Act} {w : World} {Q : Exit → Act → World → Prop} (hw : Region.wanted o (yielded ops a.tmps) = true) (ty : TypeId) (x : Operand) (ho : o.op = .load ty x)
  (g : Nat) (hx : a.eval x = .pointer (some ⟨g, 0, .none⟩)) (t : TypeId) (cs : Array Value) (fr : Nat × Nat) (d : TypeDesc) (hg : w.heap[g]? = some (.cells cs t fr))
  (hu : P.underlying ty = some d) (hd : (match d with | .struct _ | .array _ _ => true | _ => false) = true) (hi : (P.info? ty).map (·.size) = some cs.size)
  (h : wpList P ops Q rest (a.put o.dst (.agg cs)) w) : wpList P ops Q (o :: rest) a w :=
 wpList_step fun K hK => by rw [if_pos hw]; exact wp_load_row ty x ho g hx t cs fr d hg hu hd hi (hK _ _ h)
theorem run_be (w : World) : (Instr.build 126 #[]).run Tryz.prog w = .ok (.agg (q4 0)) w := by rw [qz4]; kernel_rfl
theorem pdecode_any (n : Nat) (hn : n < 256 ^ 32) (w : World) (hT : TabC w) (hD : TabD w) :
  Calls Tryz.prog 77 #[.agg (zB n)] w fun e w' => e = .returned (decV n) ∧ Below w.heap.size w w' := by
 have h4 := P5_lt
 have hx0 := evenR_ok (root2 (Ed.aF (n % 2 ^ 255))) (root2_lt _)
 have hub := Tryz.underlying22
 have hup := Tryz.underlying128
 have hu := Tryz.underlying126
 have hzB := zBZero
 have hzP := pZero
 have hzE := eZero
 have h0 := ((on_all w).alloc (.cells (zB n) 22)).alloc (.cells (pC 0 0) 128)
 have s0 := ((Str.refl w).alloc (.cells (zB n) 22)).alloc (.cells (pC 0 0) 128)
 try simp only [World.size_alloc] at h0
 have H1 := hide h0
 have S1 := hide s0
 clear h0 s0
 have hM := Nat.mod_lt n (show 0 < 2 ^ 255 from Nat.pow_pos (by decide))
 have hd := fun X h => fdec (n % 2 ^ 255) (by have : 256 ^ 32 = 2 * 2 ^ 255 := by decide +kernel
                                              omega) X h
 have htl := tB_lt n hn
 have Hcell := hide (zB_cell n hn)
 have hmask := bl_mask n hn
 have h7 := top7 ⟨tB n, htl⟩
 have hand := and127 ⟨tB n, htl⟩
 have hodd := odd_top n hn
 have Hfar := hide (dec_far n hn)
 have Hno := hide (dec_no n hn)
 have Hzero := hide (dec_zero n hn)
 have Hok := hide (dec_ok n hn)
 have hxof := fun (h : n % 2 ^ 255 < P5) X h2 h3 => xof_any (n % 2 ^ 255) h X h2 h3
 rw [rootV_if] at hxof
 dsimp only at h7 hand
 rw [hodd] at h7
 generalize hy : n % 2 ^ 255 = y at *
 generalize decide (2 ^ 255 ≤ n) = od at *
 generalize hE : evenR (root2 (Ed.aF y)) = x at *
 generalize hro : root2 (Ed.aF y) * root2 (Ed.aF y) % P5 = ro at *
 generalize Ed.aF y = af at *
 have hneg := fun X h => neg_any x hx0.1 X h
 have heq := fun X => eq_q4 X 9998 126 Tryz.underlying126 x 0 (by omega) (by decide)
 have Hx := hide hxof
 have Hn := hide hneg
 have He := hide heq
 have Hd := hide hd
 have Hb1 := hide (fun X => run_bp x y X)
 have Hb2 := hide (fun X => run_bp ((P5 - x) % P5) y X)
 have Hbe := hide run_be
 have Hb0 := hide run_b0
 have HV : Hid (vb (UInt8.ofNat (tB n)) = .int .u8 ((tB n : Nat) : Int)) := hide (by unfold vb; rw [UInt8.toNat_ofNat', Nat.mod_eq_of_lt (by omega)])
 have HV2 : Hid (vb (UInt8.ofNat (tB n % 128)) = .int .u8 ((tB n : Nat) % 128 : Int)) := hide (by unfold vb; rw [UInt8.toNat_ofNat', Nat.mod_eq_of_lt (by omega)]; rfl)
 have Hset : Hid ((zB n).setIfInBounds 31 (vb (UInt8.ofNat (tB n % 128))) = zB y) := hide (by unfold zB; rw [zb_set, hmask])
 have HgdE : Hid (Tryz.prog.eqGuardType Tryz.prog.depth 126 = false) := hide (by kernel_rfl)
 have htr := Ed.turnP_true x
 obtain ⟨HsZ4, HoZ4, HzZ4⟩ := eF 0
 obtain ⟨HsZp, HoZp, HzZp⟩ := b3 (pInfo 0 0) (pC_one 0 0) (pSize 0 0 0 0)
 have hfa := Ed.turnP_false x
 rw [HV2.out] at Hset
 rw [HV.out] at Hcell
 generalize tB n = tt at *
 have Htop := hide h7
 have Hand := hide hand
 have HM := hide hM
 have hTab := hide hT
 have Htr := hide htr
 have Hfa := hide hfa
 clear hd hxof hneg heq hM hmask h7 hand hodd hx0 h4 hn hE hro hy htl htr hfa HV HV2
 obtain ⟨HsBn, HoBn, HzBn⟩ := b3 (zBInfo n) (zBOne n) (zBSize 0 n)
 obtain ⟨HsBy, HoBy, HzBy⟩ := b3 (zBInfo y) (zBOne y) (zBSize 0 y)
 obtain ⟨HsRp, HoRp, HzRp⟩ := b3 (pInfo x y) (pC_one x y) (pSize 0 0 x y)
 obtain ⟨HsRn, HoRn, HzRn⟩ := b3 (pInfo ((P5 - x) % P5) y) (pC_one ((P5 - x) % P5) y) (pSize 0 0 ((P5 - x) % P5) y)
 obtain ⟨HsYe, HoYe, HzYe⟩ := eF y
 obtain ⟨HsXe, HoXe, HzXe⟩ := eF x
 obtain ⟨HsNe, HoNe, HzNe⟩ := b3 (eInfo ((P5 - x) % P5)) (eOne ((P5 - x) % P5)) (eSize 0 ((P5 - x) % P5))
 generalize zB n = Bn at *
 generalize zB y = By at *
 generalize hvRp : pC x y = Rp at *
 have HRp := hide hvRp
 clear hvRp
 generalize hvRn : pC ((P5 - x) % P5) y = Rn at *
 have HRn := hide hvRn
 clear hvRn
 generalize q4 y = Ye at *
 generalize q4 x = Xe at *
 generalize q4 ((P5 - x) % P5) = Ne at *
 generalize zB 0 = ZB at *
 generalize pC 0 0 = Zp at *
 generalize q4 0 = Z4 at *
 go_enter Tryz.func77, Tryz.ntmps77
 refine wp_seq_h fun K1 hK1 => ?_
 go_wp2
 refine hK1.out _ _ ?_
 clear hK1 K1
 generalize (w.alloc (.cells Bn 22)).alloc (.cells Zp 128) = w1 at *
 obtain ⟨Zf, hZf⟩ : ∃ z, z = Z4 := ⟨_, rfl⟩
 have HsZf : Hid ((Tryz.prog.info? 126).map (·.size) = some Zf.size) := hide (by rw [hZf]; exact HsZ4.out)
 have HoZf : Hid (Zf.all (·.oneCell') = true) := hide (by rw [hZf]; exact HoZ4.out)
 have HzZf : Hid (Z4.size = Zf.size) := hide (by rw [hZf])
 have HZf := hide hZf
 clear hZf
 have hcell := (cell_of_row w1 w.heap.size 31 Bn _ _ (on_blk_mul H1.out.right)).trans Hcell.out
 have hfr := frozen_of_row w1 w.heap.size 31 _ _ (on_blk_mul H1.out.right)
 have hst : (blk w.heap.size (.cells (Bn.setIfInBounds 31 (.int .u8 ((tt : Int) % 128))) 22 (0, 0)) * (blk (w.heap.size + 1) (.cells Zp 128 (0, 0)) * all w)).on _ := SP.on.setCell (i := 31) (by have := H1.out; rw [SP.mul_left_comm] at this; exact this) (.int .u8 ((tt : Int) % 128))
 rw [Hset.out, SP.mul_left_comm] at hst
 have H2 := hide hst
 have S2 := hide (S1.out.setCell ⟨w.heap.size, 31, .none⟩ (.int .u8 ((tt : Int) % 128)))
 have gy := on_blk_mul H2.out.right
 have h7 := Htop.out
 have hand := Hand.out
 clear hst
 go_wp2_with (first
  | (refine wL gy hub HsBy ?_))
 generalize w1.setCell ⟨w.heap.size, 31, .none⟩ (.int .u8 ((tt : Int) % 128)) = w2 at *
 clear gy hcell hfr H1 S1 h7 hand
 refine (Decidable.em (y < P5)).symm.elim (fun hyy => ?_) (fun hyy => ?_)
 ·have HF := hide (Hfar.out hyy)
  have Hd2 : Hid (∀ X, Tab5 X → Calls Tryz.prog 85 #[.agg By] X fun e w' => e = .returned (.tuple #[.agg Zf, .int .i64 7]) ∧ Below X.heap.size X w') := hide (fun X h => by rw [HZf.out]; have := Hd.out X h; rw [if_neg hyy] at this; exact this)
  clear hyy
  refine (Hd2.out _ (hT.below (all_below H2.out.right.right S2.out)).f).mono ?_
  rintro e w3 ⟨rfl, hB⟩
  obtain ⟨H3, S3⟩ := nx H2.out S2.out hB
  clear hB H2 S2
  obtain ⟨gN, gM, H4, S4⟩ := newV H3.out S3.out Z4 Zf 126
  have gR := on_blk_mul H4.out.right
  have HB := hide (all_below H4.out.right.right.right S4.out)
  go_wp2_with (first
   | (refine wS gR HsZp.out rfl HoZp.out ?_)
   | (refine wS gN HsZf HzZf HoZf ?_)
   | (refine b0_arm rfl 128 rfl Zp (Hb0.out _) ?_))
  exact retT Tryz.results77 gR hup HsZp.out rfl (.int .i64 7) (by rw [HF.out]) HB.out (by omega)
 have Hd2 : Hid (∀ X, Tab5 X → Calls Tryz.prog 85 #[.agg By] X fun e w' => e = .returned (.tuple #[.agg Ye, .int .i64 0]) ∧ Below X.heap.size X w') := hide (fun X h => by have := Hd.out X h; rw [if_pos hyy] at this; exact this)
 have Hx2 := hide (fun X h h3 => Hx.out hyy X h h3)
 refine (Hd2.out _ (hT.below (all_below H2.out.right.right S2.out)).f).mono ?_
 rintro e w3 ⟨rfl, hB⟩
 obtain ⟨H3, S3⟩ := nx H2.out S2.out hB
 clear hB H2 S2
 obtain ⟨gN, gM, H4, S4⟩ := newV H3.out S3.out Z4 Ye 126
 have gL := on_blk_mul H4.out
 go_wp2_with (first
  | (refine wS gN HsYe HzYe HoYe ?_)
  | (refine wL gL hu HsYe ?_))
 clear gL
 generalize (w3.alloc (.cells Z4 126)).setRow w3.heap.size Ye = w4 at *
 clear gN gM H3 S3
 generalize w3.heap.size = p5 at *
 refine (Decidable.em (ro = af)).symm.elim (fun hr => ?_) (fun hr => ?_)
 ·have HF := hide (Hno.out hr)
  have Hx3 : Hid (∀ X, TabC X → TabD X → Calls Tryz.prog 86 #[.agg Ye] X fun e w' => e = .returned (.tuple #[.agg Zf, .bool false]) ∧ Below X.heap.size X w') := hide (fun X h h3 => by rw [HZf.out]; have := Hx2.out X h h3; rw [if_neg hr] at this; exact this)
  clear hyy hr
  refine (Hx3.out _ (hT.below (all_below H4.out.right.right.right S4.out)) (hD.below (all_below H4.out.right.right.right S4.out))).mono ?_
  rintro e w5 ⟨rfl, hB⟩
  obtain ⟨H5, S5⟩ := nx H4.out S4.out hB
  clear hB H4 S4
  obtain ⟨gN, gM, H6, S6⟩ := newV H5.out S5.out Z4 Zf 126
  have gR := on_blk_mul H6.out.right.right
  have HB := hide (all_below H6.out.right.right.right.right S6.out)
  go_wp2_with (first
   | (refine wS gR HsZp.out rfl HoZp.out ?_)
   | (refine wS gN HsZf HzZf HoZf ?_)
   | (refine b0_arm rfl 128 rfl Zp (Hb0.out _) ?_))
  exact retT Tryz.results77 gR hup HsZp.out rfl (.int .i64 7) (by rw [HF.out]) HB.out (by omega)
 have Hx3 : Hid (∀ X, TabC X → TabD X → Calls Tryz.prog 86 #[.agg Ye] X fun e w' => e = .returned (.tuple #[.agg Xe, .bool true]) ∧ Below X.heap.size X w') := hide (fun X h h3 => by have := Hx2.out X h h3; rw [if_pos hr] at this; exact this)
 refine (Hx3.out _ (hT.below (all_below H4.out.right.right.right S4.out)) (hD.below (all_below H4.out.right.right.right S4.out))).mono ?_
 rintro e w5 ⟨rfl, hB⟩
 obtain ⟨H5, S5⟩ := nx H4.out S4.out hB
 clear hB H4 S4
 have hcases : od = true ∨ od = false := by cases od <;> simp
 rcases hcases with rfl | rfl
 ·by_cases hx : x = 0
  ·have HF := hide (Hzero.out hr rfl hx)
   have He2 := hide (fun X => (He.out X).trans (by rw [decide_eq_true hx]))
   clear hyy hr hx
   obtain ⟨gN, gM, H6, S6⟩ := newV H5.out S5.out Z4 Xe 126
   have gL := on_blk_mul H6.out
   have gR := on_blk_mul H6.out.right.right
   have HB := hide (all_below H6.out.right.right.right.right S6.out)
   go_wp2_with (first
    | (refine wS gR HsZp.out rfl HoZp.out ?_)
    | (refine wS gN HsXe HzXe HoXe ?_)
    | (refine load_row_w rfl _ _ rfl (w5.heap.size) rfl _ Xe _ _ gL hu rfl HsXe ?_)
    | (refine b0_arm rfl 126 rfl Z4 (Hbe.out _) ?_)
    | (refine eq_arm rfl _ _ _ _ rfl HgdE.out Xe Z4 rfl rfl true (He2.out _) ?_)
    | (refine b0_arm rfl 128 rfl Zp (Hb0.out _) ?_))
   exact retT Tryz.results77 gR hup HsZp.out rfl (.int .i64 7) (by rw [HF.out]) HB.out (by omega)
  have HF := hide (Hok.out hyy hr (fun h => hx h.2))
  rw [Htr.out, HRn.out] at HF
  have He2 := hide (fun X => (He.out X).trans (by rw [decide_eq_false hx]))
  clear hyy hr hx
  obtain ⟨gN, gM, H6, S6⟩ := newV H5.out S5.out Z4 Xe 126
  have gL := on_blk_mul H6.out
  go_wp2_with (first
   | (refine wS gN HsXe HzXe HoXe ?_)
   | (refine load_row_w rfl _ _ rfl (w5.heap.size) rfl _ Xe _ _ gL hu rfl HsXe ?_)
   | (refine b0_arm rfl 126 rfl Z4 (Hbe.out _) ?_)
   | (refine eq_arm rfl _ _ _ _ rfl HgdE.out Xe Z4 rfl rfl false (He2.out _) ?_))
  clear gL
  generalize (w5.alloc (.cells Z4 126)).setRow w5.heap.size Xe = w6 at *
  clear gN gM H5 S5
  generalize w5.heap.size = p7 at *
  refine (Hn.out _ (hT.below (all_below H6.out.right.right.right.right S6.out)).f).mono ?_
  rintro e w7 ⟨rfl, hB⟩
  obtain ⟨H7, S7⟩ := nx H6.out S6.out hB
  clear hB H6 S6
  have H8 := hide (st0 H7.out (cs := Ne))
  have S8 := hide (S7.out.setRow (p7) Ne)
  have gW := on_blk_mul H7.out
  have gL := on_blk_mul H8.out
  have gY := on_blk_mul H8.out.right
  have gR := on_blk_mul H8.out.right.right
  have HB := hide (all_below H8.out.right.right.right.right S8.out)
  go_wp2_with (first
   | (refine wS gR HsRn HzRn HoRn ?_)
   | (refine wS gW HsNe.out (HzXe.out.symm.trans HzNe.out) HoNe.out ?_)
   | (refine wL gL hu HsNe ?_)
   | (refine wL gY hu HsYe ?_)
   | (refine b2_arm rfl 128 0 1 _ _ rfl Ne Ye Rn rfl rfl (Hb2.out _) ?_))
  exact retT Tryz.results77 gR hup HsRn.out rfl (.int .i64 0) (by rw [HF.out]) HB.out (by omega)
 have HF := hide (Hok.out hyy hr (fun h => nomatch h.1))
 rw [Hfa.out, HRp.out] at HF
 clear hyy hr
 obtain ⟨gN, gM, H6, S6⟩ := newV H5.out S5.out Z4 Xe 126
 have gL := on_blk_mul H6.out
 have gY := on_blk_mul H6.out.right
 have gR := on_blk_mul H6.out.right.right
 have HB := hide (all_below H6.out.right.right.right.right S6.out)
 go_wp2_with (first
  | (refine wS gR HsRp HzRp HoRp ?_)
  | (refine wS gN HsXe HzXe HoXe ?_)
  | (refine load_row_w rfl _ _ rfl (w5.heap.size) rfl _ Xe _ _ gL hu rfl HsXe ?_)
  | (refine wL gY hu HsYe ?_)
  | (refine b2_arm rfl 128 0 1 _ _ rfl Xe Ye Rp rfl rfl (Hb1.out _) ?_))
 exact retT Tryz.results77 gR hup HsRp.out rfl (.int .i64 0) (by rw [HF.out]) HB.out (by omega)
end Cv
end Go.Proofs.YtjdebgbiockafaaGreatDoor
