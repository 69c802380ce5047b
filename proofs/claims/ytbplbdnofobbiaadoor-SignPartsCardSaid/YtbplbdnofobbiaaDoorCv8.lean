/- curve: so many times a point; sums of points; are two one. -/
import Derived.Test.YtbplbdnofobbiaaDoorCv7
import Derived.Test.YtbplbdnofobbiaaDoorGEd
set_option linter.unusedVariables false
set_option linter.unusedSimpArgs false
set_option maxRecDepth 100000
set_option maxHeartbeats 8000000
namespace Go.Proofs.YtbplbdnofobbiaaDoor
namespace Cv
open Fe
open Go.ChangeShapes Go.WideShapes Go.ChangeAt Go.RowKit
theorem nmInfo (n : Nat) : (Tryd.prog.info? 51).map (·.size) = some (q4 n).size := by rw [q4_size]; kernel_rfl
theorem nmZero (w : World) : (zeroValue 51).run Tryd.prog w = .ok (.agg (q4 0)) w := by rw [qz4]; kernel_rfl
structure PtIs (x y : Nat) (p : Ed.Pt) : Prop where
 xe : x = p.x.val
 ye : whY x y = p.y.val
 yl : y < P5
theorem PtIs.xl {x y : Nat} {p : Ed.Pt} (h : PtIs x y p) : x < P5 := by rw [h.xe]; exact p.x.isLt
theorem PtIs.self (p : Ed.Pt) : PtIs p.x.val p.y.val p := by
 refine ⟨rfl, ?_, p.y.isLt⟩
 unfold whY
 split
 ·rename_i h
  simp only [Bool.and_eq_true, decide_eq_true_eq] at h
  exfalso
  have hx : p.x = 0 := Fin.ext h.1
  have hy : p.y = 0 := Fin.ext h.2
  have ho := p.on
  unfold Ed.On at ho
  rw [hx, hy] at ho
  revert ho
  decide
 ·rfl
def ptC (p : Ed.Pt) : Array Value := pC p.x.val p.y.val
theorem ptC_none : ptC Ed.Pt.none = pC 0 1 := by
 show pC (0 : Ed.F5).val (1 : Ed.F5).val = _
 rw [Ed.zero_val, Ed.one_val]
theorem spInfo (s : Ed.Sp) : (Tryd.prog.info? 73).map (·.size) = some (spC s).size := sInfo _ _ _ _
theorem spOne (s : Ed.Sp) : (spC s).all (·.oneCell') = true := sC_one _ _ _ _
theorem spSize (s t : Ed.Sp) : (spC s).size = (spC t).size := sSize _ _ _ _ _ _ _ _
theorem spZ (s : Ed.Sp) : (sC 0 0 0 0).size = (spC s).size := sSize _ _ _ _ _ _ _ _
theorem ptInfo (p : Ed.Pt) : (Tryd.prog.info? 27).map (·.size) = some (ptC p).size := pInfo _ _
theorem ptOne (p : Ed.Pt) : (ptC p).all (·.oneCell') = true := pC_one _ _
theorem ptZ (p : Ed.Pt) : (pC 0 0).size = (ptC p).size := pSize _ _ _ _
theorem spread_pt {x y : Nat} {p : Ed.Pt} (h : PtIs x y p) (w : World) (hT : TabC w) :
  Calls Tryd.prog 37 #[.agg (pC x y)] w fun e w' => e = .returned (.agg (spC p.spread)) ∧ Below w.heap.size w w' := by
 have h2 := spread_any x y h.xl h.yl w hT
 rw [h.ye, h.xe] at h2
 unfold spC Ed.Pt.spread
 rw [Ed.one_val, Ed.val_mul, ← h.xe] at *
 rw [h.xe]
 rw [h.xe] at h2
 exact h2
theorem point_has {s : Ed.Sp} {p : Ed.Pt} (h : s.has p) (w : World) (hT : TabC w) :
  Calls Tryd.prog 39 #[.agg (spC s)] w fun e w' => e = .returned (.agg (ptC p)) ∧ Below w.heap.size w w' := by
 have h2 := point_any s w hT
 have e := Ed.Ex.point h
 rw [e.1, e.2] at h2
 exact h2
theorem none_pt (w : World) : Calls Tryd.prog 20 #[] w fun e w' => e = .returned (.agg (ptC Ed.Pt.none)) ∧ Below w.heap.size w w' := by
 rw [ptC_none]; exact none_any w
theorem base_pt (w : World) (hT : TabC w) : Calls Tryd.prog 27 #[] w fun e w' => e = .returned (.agg (ptC Ed.Pt.base)) ∧ Below w.heap.size w w' := by
 have h := base_any w hT
 rw [← Ed.el_val Ed.bxN (by decide), ← Ed.el_val Ed.byN (by decide)] at h
 exact h
theorem spread_p (p : Ed.Pt) (w : World) (hT : TabC w) :
  Calls Tryd.prog 37 #[.agg (ptC p)] w fun e w' => e = .returned (.agg (spC p.spread)) ∧ Below w.heap.size w w' := spread_pt (PtIs.self p) w hT
theorem spread_none : Ed.Pt.none.spread.has Ed.Pt.none := Ed.Pt.spread_has _
theorem sp_none : spC Ed.Pt.none.spread = spC Ed.Sp.none := by
 unfold spC Ed.Pt.spread Ed.Sp.none Ed.Pt.none
 rw [Ed.val_mul, Ed.zero_val, Nat.zero_mul]
 rfl
theorem ptimes_any (x y : Nat) (p : Ed.Pt) (hp : PtIs x y p) (n : Nat) (hn : n < 2 ^ 256) (w : World) (hT : TabC w) :
  Calls Tryd.prog 23 #[.agg (pC x y), .agg (q4 n)] w fun e w' => e = .returned (.agg (ptC (p.mul n))) ∧ Below w.heap.size w w' := by
 have hup := Tryd.underlying27
 have husn := Tryd.underlying51
 have hus := Tryd.underlying73
 have hzP := pZero
 have hzC := nmZero
 have hzS := sZero
 have h0 := (((on_all w).alloc (.cells (pC x y) 27)).alloc (.cells (q4 n) 51)).alloc (.cells (pC 0 0) 27)
 have s0 := (((Str.refl w).alloc (.cells (pC x y) 27)).alloc (.cells (q4 n) 51)).alloc (.cells (pC 0 0) 27)
 try simp only [World.size_alloc] at h0
 have H1 := hide h0
 have S1 := hide s0
 clear h0 s0
 have Hsp := hide (fun X h => spread_pt hp X h)
 have Hno := hide (fun X => none_pt X)
 have Hs0 := hide (fun X h => spread_p Ed.Pt.none X h)
 have Hpl := hide (fun s t X h => plus_any s t X h)
 have Hend := hide (fun X h => point_has (Ed.Sp.times_all (Ed.Pt.spread_has p) n hn) X h)
 have Hbit := hide (fun (k : Nat) (hk : k < 256) X => bit_any n (k : Int) (by omega) (by omega) X)
 have HI := hide spInfo
 have HO := hide spOne
 have HZ := hide spSize
 have HZs := hide spZ
 obtain ⟨HsR, HoR, HzR⟩ := b3 (ptInfo (p.mul n)) (ptOne (p.mul n)) (ptZ (p.mul n))
 have Hn0 := hide sp_none
 have hTab := hide hT
 obtain ⟨HsO, HoO, HzO⟩ := b3 (spInfo p.spread) (spOne p.spread) (spZ p.spread)
 obtain ⟨HsQ0, HoQ0, HzQ0⟩ := b3 (spInfo Ed.Pt.none.spread) (spOne Ed.Pt.none.spread) (spZ Ed.Pt.none.spread)
 obtain ⟨HsAp, HoAp, HzAp⟩ := b3 (pInfo x y) (pC_one x y) (pSize 0 0 x y)
 obtain ⟨HsN4, HoN4, HzN4⟩ := b3 (nmInfo n) (eOne n) (eSize 0 n)
 generalize pC x y = Ap at *
 generalize q4 n = N4 at *
 generalize pC 0 0 = Zp at *
 generalize q4 0 = Z4 at *
 generalize sC 0 0 0 0 = Zs at *
 generalize ptC (p.mul n) = R at *
 generalize ptC Ed.Pt.none = P0 at *
 generalize hO : spC p.spread = O at *
 have HOe := hide hO
 clear hO
 generalize spC Ed.Pt.none.spread = Q0 at *
 go_enter Tryd.func23, Tryd.ntmps23
 have gA := on_blk_mul H1.out.right.right
 go_wp2_with (first
  | (refine wL gA hup HsAp ?_))
 clear gA
 generalize ((w.alloc (.cells Ap 27)).alloc (.cells N4 51)).alloc (.cells Zp 27) = w1 at *
 refine (Hsp.out _ (hT.below (all_below H1.out.right.right.right S1.out))).mono ?_
 rintro e w2 ⟨rfl, hB⟩
 obtain ⟨H2, S2⟩ := nx H1.out S1.out hB
 clear hB H1 S1
 obtain ⟨gN, gM, H3, S3⟩ := newV H2.out S2.out Zs O 73
 go_wp2_with (first
  | (refine wS gN HsO HzO HoO ?_))
 generalize (w2.alloc (.cells Zs 73)).setRow w2.heap.size O = w3 at *
 clear gN gM H2 S2
 generalize w2.heap.size = p5 at *
 refine (Hno.out _).mono ?_
 rintro e w4 ⟨rfl, hB⟩
 obtain ⟨H4, S4⟩ := nx H3.out S3.out hB
 clear hB H3 S3
 go_wp2_with fail
 refine (Hs0.out _ (hT.below (all_below H4.out.right.right.right.right S4.out))).mono ?_
 rintro e w5 ⟨rfl, hB⟩
 obtain ⟨H5, S5⟩ := nx H4.out S4.out hB
 clear hB H4 S4
 obtain ⟨gN, gM, H6, S6⟩ := newV H5.out S5.out Zs Q0 73
 go_wp2_with (first
  | (refine wS gN HsQ0 HzQ0 HoQ0 ?_))
 generalize (w5.alloc (.cells Zs 73)).setRow w5.heap.size Q0 = w6 at *
 clear gN gM H5 S5
 generalize w5.heap.size = p6 at *
 go_loopw [12] (fun i wr => ∃ k : Nat, k ≤ 256 ∧ i = .int .i64 k ∧ (blk p6 (.cells (spC (Ed.Sp.times p.spread n k)) 73 (0, 0)) * (blk (p5) (.cells O 73 (0, 0)) * (blk (w.heap.size + 1 + 1) (.cells Zp 27 (0, 0)) * (blk (w.heap.size + 1) (.cells N4 51 (0, 0)) * (blk (w.heap.size) (.cells Ap 27 (0, 0)) * all w))))).on wr ∧ Str w wr) (fun i _ => 256 - (intOf i).toNat)
 case atStart => exact ⟨0, by omega, rfl, by rw [show Ed.Sp.times p.spread n 0 = Ed.Sp.none from rfl, ← Hn0.out]; exact H6.out, S6.out⟩
 case round =>
  obtain ⟨k, hk, rfl, hX, hS2⟩ := hrel
  have H4 := hide hX
  have S4 := hide hS2
  clear hX hS2 H6 S6
  by_cases hlt : k < 256
  ·have hst : Ed.Sp.times p.spread n (k + 1) = Ed.Sp.next p.spread (n.testBit (255 - k)) (Ed.Sp.add (Ed.Sp.times p.spread n k) (Ed.Sp.times p.spread n k)) := rfl
   have hb := Hbit.out (255 - k) (by omega)
   rw [bitOf_in n (255 - k) (by omega)] at hb
   have s1 : IntKind.i64.wrap (255 - (k : Int)) = ((255 - k : Nat) : Int) := by rw [IntWalk.i64_in _ (by omega)]; omega
   have Hb := hide hb
   clear hb
   obtain ⟨m, hm⟩ : ∃ m, m = 255 - k := ⟨_, rfl⟩
   rw [← hm] at hst Hb s1
   generalize Ed.Sp.times p.spread n k = s at *
   have Hst := hide hst
   have Hm := hide hm
   clear hst hm
   have Hp1 := hide (fun X h => Hpl.out s s X h)
   have Hp2 := hide (fun X h => Hpl.out (s.add s) p.spread X h)
   rw [HOe.out] at Hp2
   have HsA := hide (HI.out s)
   obtain ⟨HsB, HoB, HzB⟩ := b3 (HI.out (s.add s)) (HO.out (s.add s)) (HZ.out s (s.add s))
   obtain ⟨HsC, HoC, HzC⟩ := b3 (HI.out ((s.add s).add p.spread)) (HO.out ((s.add s).add p.spread)) (HZ.out (s.add s) ((s.add s).add p.spread))
   generalize spC s = A at *
   generalize hB : spC (s.add s) = B at *
   generalize hC : spC ((s.add s).add p.spread) = C at *
   have HB := hide hB
   have HC := hide hC
   clear hB hC
   have g0 := on_blk_mul H4.out
   go_wp2_with (first
    | (refine wL g0 hus HsA ?_))
   clear g0
   refine (Hp1.out _ (hT.below (all_below H4.out.right.right.right.right.right S4.out))).mono ?_
   rintro e w5 ⟨rfl, hB⟩
   obtain ⟨H5, S5⟩ := nx H4.out S4.out hB
   clear hB H4 S4
   have H6 := hide (st0 H5.out (cs := B))
   have S6 := hide (S5.out.setRow (p6) B)
   have gW := on_blk_mul H5.out
   have gN := on_blk_mul H6.out.right.right.right
   go_wp2_with (first
    | (refine wS gW HsB HzB HoB ?_)
    | (refine wL gN husn HsN4 ?_))
   clear gN
   generalize w5.setRow (p6) B = w6 at *
   clear gW H5 S5
   refine (Hb.out _).mono ?_
   rintro e w7 ⟨rfl, hB⟩
   obtain ⟨H7, S7⟩ := nx H6.out S6.out hB
   clear hB H6 S6
   by_cases ht : n.testBit m = true
   ·have HN := hide (show Ed.Sp.times p.spread n (k + 1) = (s.add s).add p.spread by rw [Hst.out, ht]; exact if_pos rfl)
    have hq := ht
    rw [hq]
    clear hq ht
    have g0 := on_blk_mul H7.out
    have g1 := on_blk_mul H7.out.right
    go_wp2_with (first
     | (refine wL g0 hus HsB ?_)
     | (refine wL g1 hus HsO ?_))
    clear g0 g1
    refine (Hp2.out _ (hT.below (all_below H7.out.right.right.right.right.right S7.out))).mono ?_
    rintro e w8 ⟨rfl, hB⟩
    obtain ⟨H8, S8⟩ := nx H7.out S7.out hB
    clear hB H7 S7
    have H9 := hide (st0 H8.out (cs := C))
    have S9 := hide (S8.out.setRow (p6) C)
    have gW := on_blk_mul H8.out
    go_wp2_with (first
     | (refine wS gW HsC HzC HoC ?_))
    exact ⟨⟨k + 1, by omega, by simp, by rw [HN.out, HC.out]; exact H9.out, S9.out⟩, by simp [intOf]; omega⟩
   ·have hf : n.testBit m = false := by simpa using ht
    have HN := hide (show Ed.Sp.times p.spread n (k + 1) = s.add s by rw [Hst.out, hf]; exact if_neg (by decide))
    rw [hf]
    clear ht hf
    go_wp2_with fail
    exact ⟨⟨k + 1, by omega, by simp, by rw [HN.out, HB.out]; exact H7.out, S7.out⟩, by simp [intOf]; omega⟩
  ·obtain rfl : k = 256 := by omega
   have HsP := hide (HI.out (Ed.Sp.times p.spread n 256))
   generalize spC (Ed.Sp.times p.spread n 256) = P at *
   have g0 := on_blk_mul H4.out
   go_wp2_with (first
    | (refine wL g0 hus HsP ?_))
   clear g0
   refine (Hend.out _ (hT.below (all_below H4.out.right.right.right.right.right S4.out))).mono ?_
   rintro e w5 ⟨rfl, hB⟩
   obtain ⟨H5, S5⟩ := nx H4.out S4.out hB
   clear hB H4 S4
   have gR := on_blk_mul H5.out.right.right
   have HB := hide (all_below H5.out.right.right.right.right.right S5.out)
   go_wp2_with (first
    | (refine wS gR HsR HzR HoR ?_))
   exact retR Tryd.results23 gR hup HsR.out rfl HB.out (by omega)
end Cv
end Go.Proofs.YtbplbdnofobbiaaDoor
