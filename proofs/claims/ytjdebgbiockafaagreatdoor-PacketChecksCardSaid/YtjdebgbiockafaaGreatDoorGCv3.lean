/- A part. -/
import Derived.Test.YtjdebgbiockafaaGreatDoorGCv2
import Derived.Lib.LaidTab
import Derived.LaidSub
import Derived.MakeChecks
set_option linter.unusedVariables false
set_option linter.unusedSimpArgs false
set_option maxRecDepth 100000
set_option maxHeartbeats 8000000
namespace Go.Proofs.YtjdebgbiockafaaGreatDoor
namespace Cv
open Fe
open Go.ChangeShapes Go.WideShapes Go.ChangeAt Go.RowKit
def tOf (p : Ed.Pt) : Ed.Tp := ⟨p.x, p.y, 1⟩
theorem tOf_has (p : Ed.Pt) : (tOf p).has p := ⟨Ed.one_ne, (Ed.q_one p.x p.y).1, (Ed.q_one p.x p.y).2.1⟩
theorem tOf_cells (p : Ed.Pt) : tpC (tOf p) = mC p.x.val p.y.val 1 := by
 unfold tpC tOf
 rw [Ed.one_val]
theorem decW_pt (p : Ed.Pt) (n : Nat) (h : bl n = Ed.enc p) : decW n = .tuple #[.agg (tpC (tOf p)), .bool true] := by
 unfold decW
 rw [h, Ed.dec_enc, tOf_cells]
def bbN : List UInt8 := List.replicate 32 102
theorem bb_enc : (bbN.set 0 88) = bl Ed.byN := by decide +kernel
theorem base_enc : Ed.enc Ed.Pt.base = bl Ed.byN := by
 have hx : Ed.Pt.base.x.val = Ed.bxN := Ed.el_val _ (by decide)
 have hy : Ed.Pt.base.y.val = Ed.byN := Ed.el_val _ (by decide)
 unfold Ed.enc
 rw [hx, hy]
 exact congrArg bl (if_neg (by decide))
theorem mbase_any (w : World) : Calls Tryz.prog 17 #[] w fun e w' => e = .returned (.agg (tpC (tOf Ed.Pt.base))) ∧ Below w.heap.size w w' := by
 have hum := Tryz.underlying58
 have hub := Tryz.underlying22
 have hzM := mZero
 have hzB := zBZero
 have h0 := (on_all w).alloc (.cells (mC 0 0 0) 58)
 have s0 := (Str.refl w).alloc (.cells (mC 0 0 0) 58)
 try simp only [World.size_alloc] at h0
 have H1 := hide h0
 have S1 := hide s0
 clear h0 s0
 have hd := fun X => mdecode_any Ed.byN (by decide +kernel) X
 rw [decW_pt Ed.Pt.base Ed.byN base_enc.symm] at hd
 have Hd := hide hd
 obtain ⟨HsR, HoR, HzR⟩ := b3 (mInfo Ed.Pt.base.x.val Ed.Pt.base.y.val 1) (mC_one Ed.Pt.base.x.val Ed.Pt.base.y.val 1) (mSize 0 0 0 Ed.Pt.base.x.val Ed.Pt.base.y.val 1)
 rw [← tOf_cells] at HsR HoR HzR
 have HsBb := hide (zBInfo Ed.byN)
 have hset := zb_set bbN 0 88
 rw [bb_enc] at hset
 have Hset : Hid ((zb bbN).setIfInBounds 0 (.int .u8 88) = zB Ed.byN) := hide hset
 have Hz0 : Hid (zB 0 = zb (bbN.take 0 ++ (List.replicate 32 0).drop 0)) := hide (by unfold zB; rw [bl_0]; rfl)
 clear hd hset
 generalize mC 0 0 0 = Zm at *
 generalize zB 0 = ZB at *
 generalize tpC (tOf Ed.Pt.base) = Rp at *
 generalize zB Ed.byN = Bb at *
 go_enter Tryz.func17, Tryz.ntmps17
 refine wp_seq_h fun K1 hK1 => ?_
 go_wp2
 refine hK1.out _ _ ?_
 clear hK1 K1
 generalize w.alloc (.cells Zm 58) = w1 at *
 have hN := H1.out.alloc (.cells ZB 22)
 have H2 := hide hN
 have S2 := hide (S1.out.alloc (.cells ZB 22))
 clear hN H1 S1
 go_wp2_with fail
 generalize w1.alloc (.cells ZB 22) = w2 at *
 generalize w1.heap.size = p1 at *
 go_loopw [2] (fun i wr => ∃ k : Nat, k ≤ 32 ∧ i = .int .i64 k ∧ (blk p1 (.cells (zb (bbN.take k ++ (List.replicate 32 0).drop k)) 22 (0, 0)) * (blk (w.heap.size) (.cells Zm 58 (0, 0)) * all w)).on wr ∧ Str w wr) (fun i _ => 32 - (intOf i).toNat)
 case atStart => exact ⟨0, by omega, rfl, by rw [← Hz0.out]; exact H2.out, S2.out⟩
 obtain ⟨k, hk, rfl, hX, hS2⟩ := hrel
 have H20 := hide hX
 have S20 := hide hS2
 clear hX hS2 H2 S2
 by_cases hlt : k < 32
 ·have hset2 := set_takeN bbN (List.replicate 32 0) k 102 (by unfold bbN; rw [List.getElem?_replicate, if_pos hlt]) (by simp; omega)
  have hst := SP.on.setCell (i := k) H20.out (vb 102)
  rw [show (zb (bbN.take k ++ (List.replicate 32 0).drop k)).setIfInBounds k (vb 102) = zb ((bbN.take k ++ (List.replicate 32 0).drop k).set k 102) from zb_set _ _ _, hset2] at hst
  have HN := hide hst
  obtain ⟨old, hold⟩ : ∃ v, wr.cell? ⟨p1, k, .none⟩ = some v := by
   have hl : k < (bbN.take k ++ (List.replicate 32 0).drop k).length := by rw [List.length_append, List.length_take, List.length_drop]; simp [bbN]; omega
   exact ⟨_, (cell_of_row wr p1 k _ _ _ (on_blk_mul H20.out)).trans (by unfold zb; rw [List.getElem?_toArray]; exact vbs_get _ k hl)⟩
  have hfr := frozen_of_row wr p1 k _ _ (on_blk_mul H20.out)
  have hk32 : (k : Int) < 32 := by omega
  clear hst hset2 H20
  go_wp2
  exact ⟨⟨k + 1, by omega, by simp, HN.out, S20.out.setCell _ _⟩, by simp [intOf]; omega⟩
 obtain rfl : k = 32 := by omega
 have e4 : bbN.take 32 ++ (List.replicate 32 0).drop 32 = bbN := by decide
 rw [e4] at H20
 have hst := SP.on.setCell (i := 0) H20.out (.int .u8 88)
 rw [Hset.out] at hst
 obtain ⟨old, hold⟩ : ∃ v, wr.cell? ⟨p1, 0, .none⟩ = some v := ⟨vb 102, (cell_of_row wr p1 0 _ _ _ (on_blk_mul H20.out)).trans rfl⟩
 have hfr := frozen_of_row wr p1 0 _ _ (on_blk_mul H20.out)
 have H21 := hide hst
 have S21 := hide (S20.out.setCell ⟨p1, 0, .none⟩ (.int .u8 88))
 have gB := on_blk_mul H21.out
 clear hst e4
 go_wp2_with (first
  | (refine wL gB hub HsBb ?_))
 clear gB hold hfr
 generalize wr.setCell ⟨p1, 0, .none⟩ (.int .u8 88) = w21 at *
 refine (Hd.out _).mono ?_
 rintro e w22 ⟨rfl, hB⟩
 obtain ⟨H22, S22⟩ := nx H21.out S21.out hB
 clear hB H21 S21
 have HsRp := HsR
 have HoRp := HoR
 have HzRp := HzR
 obtain ⟨gN, gM, H23, S23⟩ := newV H22.out S22.out Zm Rp 58
 have gL := on_blk_mul H23.out
 have gR := on_blk_mul H23.out.right.right
 have HB := hide (all_below H23.out.right.right.right S23.out)
 go_wp2_with (first
  | (refine wS gR HsRp HzRp HoRp ?_)
  | (refine wS gN HsRp HzRp HoRp ?_)
  | (refine wL gL hum HsRp ?_))
 exact retR Tryz.results17 gR hum HsRp.out rfl HB.out (by omega)
theorem ptimes_pt (p : Ed.Pt) (n : Nat) (hn : n < 2 ^ 256) (w : World) (hT : TabC w) :
  Calls Tryz.prog 82 #[.agg (ptC p), .agg (q4 n)] w fun e w' => e = .returned (.agg (ptC (p.mul n))) ∧ Below w.heap.size w w' := ptimes_any _ _ p (PtIs.self p) n hn w hT
theorem psame_pt (p q : Ed.Pt) (w : World) :
  Calls Tryz.prog 80 #[.agg (ptC p), .agg (ptC q)] w fun e w' => e = .returned (.bool (decide (p = q))) ∧ Below w.heap.size w w' := psame_any _ _ p (PtIs.self p) _ _ q (PtIs.self q) w
section
variable {F : Type} [Lean.Grind.CommRing F]
end
theorem tc_x {W : World} (hL : laidMet Tryz.prog [("bosun/curve.baseX", Rows.laid_bosun_curve_baseX)] W) : Tb 1 Ed.bxN W := by
 have e1 : (Rows.laid_bosun_curve_baseX : DataW Unit) = Lib.tabData .u64 ((qs 4 Ed.bxN).map fun x : Nat => (x : Int)) := by
  rw [show qs 4 Ed.bxN = [14507833142362363162, 7578651490590762930, 13881468655802702940, 2407515759118799870] by decide +kernel]; kernel_rfl
 rw [e1] at hL
 have t1 := Lib.tabIs_of_head (g := 1) (t := 126) (e := 50) (n := 4) (by kernel_rfl) (by kernel_rfl) Tryz.underlying126 Tryz.underlying50 (by kernel_rfl) (by kernel_rfl) hL
 intro i hi
 have := t1.cell (g := 1) (by kernel_rfl) i (by rw [List.length_map, qs_len]; exact hi)
 rw [this, List.getD_eq_getElem?_getD, List.getElem?_map, qs_get 4 _ i hi]
 rfl
theorem tc_y {W : World} (hL : laidMet Tryz.prog [("bosun/curve.baseY", Rows.laid_bosun_curve_baseY)] W) : Tb 2 Ed.byN W := by
 have e1 : (Rows.laid_bosun_curve_baseY : DataW Unit) = Lib.tabData .u64 ((qs 4 Ed.byN).map fun x : Nat => (x : Int)) := by
  rw [show qs 4 Ed.byN = [7378697629483820632, 7378697629483820646, 7378697629483820646, 7378697629483820646] by decide +kernel]; kernel_rfl
 rw [e1] at hL
 have t1 := Lib.tabIs_of_head (g := 2) (t := 126) (e := 50) (n := 4) (by kernel_rfl) (by kernel_rfl) Tryz.underlying126 Tryz.underlying50 (by kernel_rfl) (by kernel_rfl) hL
 intro i hi
 have := t1.cell (g := 2) (by kernel_rfl) i (by rw [List.length_map, qs_len]; exact hi)
 rw [this, List.getD_eq_getElem?_getD, List.getElem?_map, qs_get 4 _ i hi]
 rfl
theorem tc_d {W : World} (hL : laidMet Tryz.prog [("bosun/curve.d", Rows.laid_bosun_curve_d)] W) : Tb 3 Ed.dN W := by
 have e1 : (Rows.laid_bosun_curve_d : DataW Unit) = Lib.tabData .u64 ((qs 4 Ed.dN).map fun x : Nat => (x : Int)) := by
  rw [show qs 4 Ed.dN = [8496970652267935907, 31536524315187371, 10144147576115030168, 5909686906226998899] by decide +kernel]; kernel_rfl
 rw [e1] at hL
 have t1 := Lib.tabIs_of_head (g := 3) (t := 126) (e := 50) (n := 4) (by kernel_rfl) (by kernel_rfl) Tryz.underlying126 Tryz.underlying50 (by kernel_rfl) (by kernel_rfl) hL
 intro i hi
 have := t1.cell (g := 3) (by kernel_rfl) i (by rw [List.length_map, qs_len]; exact hi)
 rw [this, List.getD_eq_getElem?_getD, List.getElem?_map, qs_get 4 _ i hi]
 rfl
theorem tc_dd {W : World} (hL : laidMet Tryz.prog [("bosun/curve.dTwice", Rows.laid_bosun_curve_dTwice)] W) : Tb 5 ((Ed.dN + Ed.dN) % P5) W := by
 have e1 : (Rows.laid_bosun_curve_dTwice : DataW Unit) = Lib.tabData .u64 ((qs 4 ((Ed.dN + Ed.dN) % P5)).map fun x : Nat => (x : Int)) := by
  rw [show qs 4 ((Ed.dN + Ed.dN) % P5) = [16993941304535871833, 63073048630374742, 1841551078520508720, 2596001775599221991] by decide +kernel]; kernel_rfl
 rw [e1] at hL
 have t1 := Lib.tabIs_of_head (g := 5) (t := 126) (e := 50) (n := 4) (by kernel_rfl) (by kernel_rfl) Tryz.underlying126 Tryz.underlying50 (by kernel_rfl) (by kernel_rfl) hL
 intro i hi
 have := t1.cell (g := 5) (by kernel_rfl) i (by rw [List.length_map, qs_len]; exact hi)
 rw [this, List.getD_eq_getElem?_getD, List.getElem?_map, qs_get 4 _ i hi]
 rfl
def ptN (p : Ed.Pt) : Nat × Nat := (p.x.val, p.y.val)
theorem Go2.of (l : List Ed.Pt) : Go2 (l.map ptN) l := by
 refine ⟨List.length_map _, fun k q p hq hp => ?_⟩
 rw [List.getElem?_map, hp] at hq
 obtain rfl : ptN p = q := by simpa using hq
 exact PtIs.self p
theorem run_pp2 (p q : Ed.Pt) (w : World) : (Instr.buildSlice 155 2 #[(0, .agg (ptC p)), (1, .agg (ptC q))]).run Tryz.prog w = .ok (.slice (some ⟨w.heap.size, 0, .none⟩) 2 2) (w.alloc (.cells (psC [ptN p, ptN q]) 128)) := run_ps2 _ _ _ _ w
theorem psum_2 (p q : Ed.Pt) : psum [p, q] = p.sum q := by
 show (Ed.Pt.none.sum p).sum q = _
 rw [Ed.Pt.none_sum]
theorem padd_2 (p q : Ed.Pt) (v : Value) (w : World) (hv : IsPs w v [ptN p, ptN q]) (hT : TabC w) :
  Calls Tryz.prog 83 #[v] w fun e w' => e = .returned (.agg (ptC (p.sum q))) ∧ Below w.heap.size w w' := by
 have h := padd_any v [ptN p, ptN q] [p, q] (Go2.of [p, q]) (show 2 < 1000 by decide) w hv hT
 rwa [psum_2] at h
end Cv
end Go.Proofs.YtjdebgbiockafaaGreatDoor
