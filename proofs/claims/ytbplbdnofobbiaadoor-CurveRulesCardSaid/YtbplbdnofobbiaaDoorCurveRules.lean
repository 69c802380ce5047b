/- The law CurveRules: sums in another order are the same; so many times, and so many, is as many as both; as many as the order tells is None; nothing, as a point, is None. -/
import Derived.Test.YtbplbdnofobbiaaDoorGCv3
import Derived.Test.YtbplbdnofobbiaaDoorCards
import Derived.Test.YtbplbdnofobbiaaDoorTie
import Derived.Deep.DeepHandedRow
namespace Go.Proofs.YtbplbdnofobbiaaDoor
namespace Cv
open Fe
open Go.ChangeShapes Go.WideShapes Go.ChangeAt Go.RowKit
set_option linter.unusedVariables false
set_option linter.unusedSimpArgs false

theorem star_2_1 (P Q R : SP) : P * (Q * R) = Q * (P * R) := SP.mul_left_comm P Q R
theorem bv_blk2 {v1 v2 : Value} {o1 o2 : Obj} {F : SP} {w : World} (h : (Multi2.bv v1 o1 * (Multi2.bv v2 o2 * F)).on w) :
    ∃ g1 g2, v1 = .pointer (some ⟨g1, 0, Option.none⟩) ∧ v2 = .pointer (some ⟨g2, 0, Option.none⟩) ∧ (blk g1 o1 * (blk g2 o2 * F)).on w := by
  obtain ⟨g1, e1, h⟩ := Multi2.bv_blk h
  rw [SP.mul_left_comm] at h
  obtain ⟨g2, e2, h⟩ := Multi2.bv_blk h
  exact ⟨g1, g2, e1, e2, by rw [SP.mul_left_comm]; exact h⟩
theorem zB_bytes (n g : Nat) (X : World) (t : TypeId) (h : X.heap[g]? = some (.cells (zB n) t (0, 0))) : IsBytes X (.slice (some ⟨g, 0, Option.none⟩) 32 32) (bl n) :=
  ⟨_, _, by rw [bl_len], by rw [bl_len]; omega, by decide, fun i v hv => ⟨g, 0, rfl, by
    rw [Nat.zero_add, cell_of_row X g i _ _ _ h]
    unfold zB zb
    rw [List.getElem?_toArray]; exact hv⟩, fun h => nomatch h⟩
theorem reduce_bl (n : Nat) (hn : n < 256 ^ 32) (v : Value) (X : World) (h : IsBytes X v (bl n)) (hO : TabO X) : Calls Tryd.prog 26 #[v] X fun e w' => e = .returned (.agg (q4 (n % O6))) ∧ Below X.heap.size X w' := by
  have := reduce_any v (bl n) X h hO (by rw [bl_len]; omega)
  rwa [leN_bl n hn] at this
theorem bytesL_bl (n : Nat) (hn : n < 18446744073709551616 ^ 4) (X : World) : Calls Tryd.prog 25 #[.agg (q4 n)] X fun e w' => e = .returned (.agg (zB n)) ∧ Below X.heap.size X w' := by
  have h1 := bytesL_any n X
  rw [bl_wbs n hn] at h1
  exact h1
theorem padd_z (p : Ed.Pt) (v : Value) (w : World) (hv : IsPs w v [(0, 0), ptN p]) (hT : TabC w) :
    Calls Tryd.prog 11 #[v] w fun e w' => e = .returned (.agg (ptC p)) ∧ Below w.heap.size w w' := by
  have h := padd_any v [(0, 0), ptN p] [Ed.Pt.none, p] ⟨rfl, fun k q r hq hr => by
    match k, hq, hr with
    | 0, hq, hr =>
      obtain rfl : (0, 0) = q := by simpa using hq
      obtain rfl : Ed.Pt.none = r := by simpa using hr
      exact PtIs.zero
    | 1, hq, hr =>
      obtain rfl : ptN p = q := by simpa using hq
      obtain rfl : p = r := by simpa using hr
      exact PtIs.self _
    | k + 2, hq, hr => simp at hq⟩ (show 2 < 1000 by decide) w hv hT
  rwa [psum_2, Ed.Pt.none_sum] at h
theorem run_pz (p : Ed.Pt) (w : World) : (Instr.buildSlice 71 2 #[(0, .agg (pC 0 0)), (1, .agg (ptC p))]).run Tryd.prog w = .ok (.slice (some ⟨w.heap.size, 0, Option.none⟩) 2 2) (w.alloc (.cells (psC [(0, 0), ptN p]) 27)) := run_ps2 _ _ _ _ w
set_option maxRecDepth 100000 in
theorem tab_order {W : World} (hL : laidMet Tryd.prog [("bosun/scalar.order", Rows.laid_bosun_scalar_order)] W) : TabO W := by
  have e1 : (Rows.laid_bosun_scalar_order : DataW Unit) = Lib.tabData .u64 ((qs 4 O6).map fun x : Nat => (x : Int)) := by
    rw [show qs 4 O6 = [6346243789798364141, 1503914060200516822, 0, 1152921504606846976] by decide +kernel]; kernel_rfl
  rw [e1] at hL
  have t1 := Lib.tabIs_of_head (g := 2) (t := 51) (e := 22) (n := 4) (by kernel_rfl) (by kernel_rfl) Tryd.underlying51 Tryd.underlying22 (by kernel_rfl) (by kernel_rfl) hL
  intro i hi
  have := t1.cell (g := 2) (by kernel_rfl) i (by rw [List.length_map, qs_len]; exact hi)
  rw [this, List.getD_eq_getElem?_getD, List.getElem?_map, qs_get 4 _ i hi]
  rfl
set_option maxRecDepth 100000 in
theorem tab_rules {W : World} (hL : laidMetH Tryd.prog [("bosun/field.modulus", Rows.laid_bosun_field_modulus), ("bosun/field.lessTwo", Rows.laid_bosun_field_lessTwo), ("bosun/scalar.order", Rows.laid_bosun_scalar_order), ("bosun/curve.dTwice", Rows.laid_bosun_curve_dTwice), ("bosun/curve.baseX", Rows.laid_bosun_curve_baseX), ("bosun/curve.baseY", Rows.laid_bosun_curve_baseY)] W) : TabC W ∧ TabO W := by
  rw [MakeChecks.laidMetH_plain _ _ _ (by kernel_rfl)] at hL
  exact ⟨⟨⟨tb_m (laidMet.filter (fun x => x.1 == "bosun/field.modulus") hL)⟩, tb_l (laidMet.filter (fun x => x.1 == "bosun/field.lessTwo") hL), tc_x (laidMet.filter (fun x => x.1 == "bosun/curve.baseX") hL), tc_y (laidMet.filter (fun x => x.1 == "bosun/curve.baseY") hL), tc_dd (laidMet.filter (fun x => x.1 == "bosun/curve.dTwice") hL)⟩, tab_order (laidMet.filter (fun x => x.1 == "bosun/scalar.order") hL)⟩
theorem TabO.below {w X : World} (h : TabO w) (hb : Below w.heap.size w X) : TabO X := fun i hi => (hb.cell (World.block_lt_of_cell? _ _ (h i hi))).trans (h i hi)
set_option maxRecDepth 100000 in
set_option maxHeartbeats 8000000 in
theorem walk_CurveRules (w : World) (hL : laidMetH Tryd.prog Rows.curveRulesRow.laid w) (a : Nat) (ha : a < 18446744073709551616 ^ 4) (b : Nat) (hb : b < 18446744073709551616 ^ 4) :
    Calls Tryd.prog 5 #[.agg (q4 a), .agg (q4 b)] w fun e w' => e = .returned (.bool true) ∧ Below w.heap.size w w' := by
  obtain ⟨hT, hO⟩ := tab_rules hL
  clear hL
  have h256 : 18446744073709551616 ^ 4 = 256 ^ 32 := by decide +kernel
  have hO256 : O6 < 2 ^ 256 := by decide +kernel
  have hu4 := Tryd.underlying23
  have hub := Tryd.underlying38
  have husn := Tryd.underlying51
  have hup := Tryd.underlying27
  have hzL := eZero4
  have hzB := zBZero
  have hzC := nmZero
  have hzP := pZero
  have h0 := ((on_all w).alloc (.cells (q4 a) 23)).alloc (.cells (q4 b) 23)
  have s0 := ((Str.refl w).alloc (.cells (q4 a) 23)).alloc (.cells (q4 b) 23)
  try simp only [World.size_alloc] at h0
  have H1 := hide h0
  have S1 := hide s0
  clear h0 s0
  have hTab := hide hT
  have hTabO := hide hO
  have hm : a % O6 < O6 := Nat.mod_lt _ (by decide)
  have hn : b % O6 < O6 := Nat.mod_lt _ (by decide)
  have k0 := fun X h => clives_any X h
  have k1 := fun X => bytesL_bl a ha X
  have k2 := fun X => bytesL_bl b hb X
  have k3 := fun vv X h h2 => reduce_bl a (by rw [← h256]; exact ha) vv X h h2
  have k4 := fun vv X h h2 => reduce_bl b (by rw [← h256]; exact hb) vv X h h2
  have kza := fun g X t h => zB_bytes a g X t h
  have kzb := fun g X t h => zB_bytes b g X t h
  generalize a % O6 = m at *
  generalize b % O6 = n at *
  have k5 := fun X h => base_pt X h
  have k6 := fun X h => ptimes_pt Ed.Pt.base m (by omega) X h
  have k7 := fun X h => ptimes_pt Ed.Pt.base n (by omega) X h
  have hO4 : O6 < 18446744073709551616 ^ 4 := by decide
  have hm4 : m < 18446744073709551616 ^ 4 := by omega
  have hn4 : n < 18446744073709551616 ^ 4 := by omega
  have k8 := fun X h => _root_.Go.Proofs.YtbplbdnofobbiaaDoor.add_any m n hm4 hn4 X h
  clear hO4 hm4 hn4
  have hmn : (m + n) % O6 < O6 := Nat.mod_lt _ (by decide)
  have k9 := fun X h => ptimes_pt Ed.Pt.base ((m + n) % O6) (by omega) X h
  rw [Ed.Pt.mul_mod _ _ Ed.base_order, Ed.Pt.mul_add] at k9
  have hc1 : (Ed.Pt.base.mul m).mul n = (Ed.Pt.base.mul n).mul m := Ed.Pt.mul_comm _ _ _
  have hc2 : (Ed.Pt.base.mul m).mul O6 = Ed.Pt.none := by rw [Ed.Pt.mul_comm, Ed.base_order, Ed.Pt.none_mul]
  have k10 := fun X h => ptimes_pt (Ed.Pt.base.mul m) n (by omega) X h
  have k11 := fun X h => ptimes_pt (Ed.Pt.base.mul n) m (by omega) X h
  rw [← hc1] at k11
  have k12 := fun X h => ptimes_pt (Ed.Pt.base.mul m) O6 hO256 X h
  rw [hc2] at k12
  have k13 := fun X h => order_any X h
  generalize (Ed.Pt.base.mul m).mul n = z at *
  generalize Ed.Pt.base.mul m = p at *
  generalize Ed.Pt.base.mul n = q at *
  generalize (m + n) % O6 = mn at *
  have k14 := fun vv X h h2 => padd_2 p q vv X h h2
  have k15 := fun vv X h h2 => padd_2 q p vv X h h2
  rw [Ed.Pt.comm q p] at k15
  have k16 := fun X => psame_pt (p.sum q) (p.sum q) X
  rw [decide_eq_true (rfl : p.sum q = p.sum q)] at k16
  have k17 := fun X => psame_pt z z X
  rw [decide_eq_true (rfl : z = z)] at k17
  have k18 := fun X => none_pt X
  have k19 := fun X => psame_pt Ed.Pt.none Ed.Pt.none X
  rw [decide_eq_true (rfl : Ed.Pt.none = Ed.Pt.none)] at k19
  have k20 := fun X h => pneg_pt p X h
  have k21 := fun vv X h h2 => padd_2 p p.neg vv X h h2
  rw [Ed.Pt.sum_neg] at k21
  have k22 : ∀ X, Calls Tryd.prog 18 #[.agg (ptC Ed.Pt.none), .agg (pC 0 0)] X fun e w' => e = .returned (.bool (decide (Ed.Pt.none = Ed.Pt.none))) ∧ Below X.heap.size X w' := fun X => psame_any _ _ Ed.Pt.none (PtIs.self Ed.Pt.none) 0 0 Ed.Pt.none PtIs.zero X
  rw [decide_eq_true (rfl : Ed.Pt.none = Ed.Pt.none)] at k22
  have k23 := fun vv X h h2 => padd_z p vv X h h2
  have k24 := fun X => psame_pt p p X
  rw [decide_eq_true (rfl : p = p)] at k24
  have k25 := fun X => pencode_any 0 0 Ed.Pt.none PtIs.zero X
  have k26 := fun X => pencode_pt Ed.Pt.none X
  have hp1 := hide (fun X => run_pp2 p q X)
  have hp2 := hide (fun X => run_pp2 q p X)
  have hp3 := hide (fun X => run_pp2 p p.neg X)
  have hp4 := hide (fun X => run_pz p X)
  have HE1 : Hid (∀ X, (Op.equalIn 10000 38 (.agg (zb (Ed.enc Ed.Pt.none))) (.agg (zb (Ed.enc Ed.Pt.none)))).run Tryd.prog X = .ok true X) := hide (fun X => by
    have := run_eq_bytes (P := Tryd.prog) X 9998 38 5 32 Tryd.underlying38 Tryd.underlying5 (by kernel_rfl) _ _ (Ed.enc_len Ed.Pt.none) (Ed.enc_len Ed.Pt.none)
    rwa [decide_eq_true rfl] at this)
  have HgdB : Hid (Tryd.prog.eqGuardType Tryd.prog.depth 38 = false) := hide (by kernel_rfl)
  have hC1 : Hid (∀ X : World, IsPs (X.alloc (.cells (psC [ptN p, ptN q]) 27)) (.slice (some ⟨X.heap.size, 0, Option.none⟩) 2 2) [ptN p, ptN q]) := hide (fun X => IsPs.of (heap_alloc_new X _))
  have hC2 : Hid (∀ X : World, IsPs (X.alloc (.cells (psC [ptN q, ptN p]) 27)) (.slice (some ⟨X.heap.size, 0, Option.none⟩) 2 2) [ptN q, ptN p]) := hide (fun X => IsPs.of (heap_alloc_new X _))
  have hC3 : Hid (∀ X : World, IsPs (X.alloc (.cells (psC [ptN p, ptN p.neg]) 27)) (.slice (some ⟨X.heap.size, 0, Option.none⟩) 2 2) [ptN p, ptN p.neg]) := hide (fun X => IsPs.of (heap_alloc_new X _))
  have hC4 : Hid (∀ X : World, IsPs (X.alloc (.cells (psC [(0, 0), ptN p]) 27)) (.slice (some ⟨X.heap.size, 0, Option.none⟩) 2 2) [(0, 0), ptN p]) := hide (fun X => IsPs.of (heap_alloc_new X _))
  have HsPp := hide (ptInfo p)
  have HoPp := hide (ptOne p)
  have HzPp := hide (ptZ p)
  have HsPq := hide (ptInfo q)
  have HoPq := hide (ptOne q)
  have HzPq := hide (ptZ q)
  have HsPn := hide (ptInfo p.neg)
  have HoPn := hide (ptOne p.neg)
  have HzPn := hide (ptZ p.neg)
  have HsPx := hide (ptInfo (p.sum q))
  have HoPx := hide (ptOne (p.sum q))
  have HzPx := hide (ptZ (p.sum q))
  have HsPz := hide (ptInfo z)
  have HoPz := hide (ptOne z)
  have HzPz := hide (ptZ z)
  have HsPo := hide (ptInfo Ed.Pt.none)
  have HoPo := hide (ptOne Ed.Pt.none)
  have HzPo := hide (ptZ Ed.Pt.none)
  have HsPB := hide (ptInfo Ed.Pt.base)
  have HoPB := hide (ptOne Ed.Pt.base)
  have HzPB := hide (ptZ Ed.Pt.base)
  have hk0 := hide k0
  have hk1 := hide k1
  have hk2 := hide k2
  have hk3 := hide k3
  have hk4 := hide k4
  have hk5 := hide k5
  have hk6 := hide k6
  have hk7 := hide k7
  have hk8 := hide k8
  have hk9 := hide k9
  have hk10 := hide k10
  have hk11 := hide k11
  have hk12 := hide k12
  have hk13 := hide k13
  have hk14 := hide k14
  have hk15 := hide k15
  have hk16 := hide k16
  have hk17 := hide k17
  have hk18 := hide k18
  have hk19 := hide k19
  have hk20 := hide k20
  have hk21 := hide k21
  have hk22 := hide k22
  have hk23 := hide k23
  have hk24 := hide k24
  have hk25 := hide k25
  have hk26 := hide k26
  have hkza := hide kza
  have hkzb := hide kzb
  have HsZp := hide (pInfo 0 0)
  clear k0 k1 k2 k3 k4 k5 k6 k7 k8 k9 k10 k11 k12 k13 k14 k15 k16 k17 k18 k19 k20 k21 k22 k23 k24 k25 k26 kza kzb hm hn hmn hc1 hc2 ha hb h256 hO256
  have HsAa := hide (eInfo4 a)
  have HoAa := hide (eOne a)
  have HzAa := hide (eSize 0 a)
  have HsBb := hide (eInfo4 b)
  have HoBb := hide (eOne b)
  have HzBb := hide (eSize 0 b)
  have HsCa := hide (zBInfo a)
  have HoCa := hide (zBOne a)
  have HzCa := hide (zBSize 0 a)
  have HsCb := hide (zBInfo b)
  have HoCb := hide (zBOne b)
  have HzCb := hide (zBSize 0 b)
  have HsMa := hide (nmInfo m)
  have HoMa := hide (eOne m)
  have HzMa := hide (eSize 0 m)
  have HsMb := hide (nmInfo n)
  have HoMb := hide (eOne n)
  have HzMb := hide (eSize 0 n)
  have HsMn := hide (nmInfo mn)
  have HoMn := hide (eOne mn)
  have HzMn := hide (eSize 0 mn)
  have HsOo := hide (nmInfo O6)
  have HoOo := hide (eOne O6)
  have HzOo := hide (eSize 0 O6)
  generalize hvAa : q4 a = Aa at *
  clear hvAa
  generalize hvBb : q4 b = Bb at *
  clear hvBb
  generalize hvCa : zB a = Ca at *
  clear hvCa
  generalize hvCb : zB b = Cb at *
  clear hvCb
  generalize hvMa : q4 m = Ma at *
  clear hvMa
  generalize hvMb : q4 n = Mb at *
  clear hvMb
  generalize hvMn : q4 mn = Mn at *
  clear hvMn
  generalize hvOo : q4 O6 = Oo at *
  clear hvOo
  generalize hvZ4 : q4 0 = Z4 at *
  clear hvZ4
  generalize hvZB : zB 0 = ZB at *
  clear hvZB
  generalize hvZp : pC 0 0 = Zp at *
  clear hvZp
  generalize zb (Ed.enc Ed.Pt.none) = En at *
  generalize ptC p = Pp at *
  generalize ptC q = Pq at *
  generalize ptC p.neg = Pn at *
  generalize ptC (p.sum q) = Px at *
  generalize ptC z = Pz at *
  generalize ptC Ed.Pt.none = Po at *
  generalize ptC Ed.Pt.base = PB at *
  generalize psC [ptN p, ptN q] = C1 at *
  generalize psC [ptN q, ptN p] = C2 at *
  generalize psC [ptN p, ptN p.neg] = C3 at *
  generalize psC [(0, 0), ptN p] = C4 at *
  go_enter Tryd.func5, Tryd.ntmps5
  refine wp_seq_h fun K1 hK1 => ?_
  go_wp2_with fail
  refine hK1.out _ _ ?_
  clear hK1 K1
  generalize (w.alloc (.cells Aa 23)).alloc (.cells Bb 23) = w1 at *
  go_wp2_with fail
  refine (hk0.out _ (hT.below (all_below H1.out.right.right S1.out))).mono ?_
  rintro e w2 ⟨rfl, hB⟩
  have H2 := hide (H1.out.below hB)
  have S2 := hide (S1.out.trans (Str.below hB))
  clear hB H1 S1
  go_wp2_with fail
  refine Multi2.wp_region_multi [4, 5, 6, 7] [4, 5] [6, 7] [isV (.agg Aa), isV (.agg Ca), isV (.agg Bb), isV (.agg Cb), (fun _ _ => True), (fun _ _ => True), (fun _ _ => True), (fun _ _ => True)]
    (by kernel_rfl) (by kernel_rfl) (by kernel_rfl) ⟨rfl, rfl, trivial⟩ (fun f s X => (Multi2.opt (f 4) (Multi2.bv (s 4) (.cells (if f 6 = true then Ca else ZB) 38 (0, 0))) * (Multi2.opt (f 5) (Multi2.bv (s 5) (.cells (if f 7 = true then Cb else ZB) 38 (0, 0))) * ((blk (w.heap.size + 1) (.cells Bb 23 (0, 0)) * (blk (w.heap.size) (.cells Aa 23 (0, 0)) * all w))))).on X ∧ Str w X) (fun _ => ⟨on_emp_mul.2 (on_emp_mul.2 (SP.on.drew H2.out)), Str.drew S2.out⟩) (fun f s a b h st => ⟨h.1.below st, h.2.trans (Str.below st)⟩) (fun f g s t X h h9 hI => by
      have e4 := h 4 rfl
      have e5 := h 5 rfl
      have e6 := h 6 rfl
      have e7 := h 7 rfl
      have i4 := h9 4 rfl
      have i5 := h9 5 rfl
      rw [← e4, ← e5, ← e6, ← e7]
      refine ⟨?_, hI.2⟩
      have := hI.1
      revert this i4 i5
      cases f 4 <;> cases f 5 <;> intro i4 i5 <;> simp_all [Multi2.opt]) ?keep ?todo ?rest (by decide) (by decide)
  case keep => exact ⟨Keep.isV _, Keep.isV _, Keep.isV _, Keep.isV _, fun _ _ _ h _ => h, fun _ _ _ h _ => h, fun _ _ _ h _ => h, fun _ _ _ h _ => h, trivial⟩
  case todo =>
    refine ⟨?_, ?_, ?_, ?_, ?_, ?_, ?_, ?_, trivial⟩
    · intro f hf0 hw hn ev X hT hb hk hf
      have e0 : ev (.tmp 2) = .pointer (some ⟨w.heap.size, 0, Option.none⟩) := by have h9 := hk.1; rw [if_pos (by kernel_rfl)] at h9; exact h9
      exact OpOk.load_row _ _ rfl _ e0 _ Aa (0, 0) _ (on_blk_mul hT.1.right.right.right) hu4 rfl HsAa.out (Multi2.ended_stay rfl rfl (Stay.refl _))
    · intro f hf0 hw hn ev X hT hb hk hf
      have e0 : ev (.tmp 14) = .agg Aa := hf.1
      refine OpOk.enters (f := 25) (args := #[.agg Aa]) (W' := X) (by simp [execOp, resolve, invoke, e0, hb.1, hb.2.1, go_sem]) ((hk1.out X).mono ?_)
      rintro e _ ⟨rfl, hB⟩
      exact ⟨_, rfl, Multi2.ended_stay rfl rfl hB⟩
    · intro f hf0 hw hn ev X hT hb hk hf
      have e0 : ev (.tmp 3) = .pointer (some ⟨w.heap.size + 1, 0, Option.none⟩) := by have h9 := hk.1; rw [if_pos (by kernel_rfl)] at h9; exact h9
      exact OpOk.load_row _ _ rfl _ e0 _ Bb (0, 0) _ (on_blk_mul hT.1.right.right) hu4 rfl HsBb.out (Multi2.ended_stay rfl rfl (Stay.refl _))
    · intro f hf0 hw hn ev X hT hb hk hf
      have e0 : ev (.tmp 16) = .agg Bb := hf.1
      refine OpOk.enters (f := 25) (args := #[.agg Bb]) (W' := X) (by simp [execOp, resolve, invoke, e0, hb.1, hb.2.1, go_sem]) ((hk2.out X).mono ?_)
      rintro e _ ⟨rfl, hB⟩
      exact ⟨_, rfl, Multi2.ended_stay rfl rfl hB⟩
    · intro f hf0 hw hn ev X hT hb hk hf
      have fs : f 6 = false := hn 6 (by kernel_rfl)
      have hX := hT.1
      rw [hf0, Multi2.opt_false] at hX
      have hX2 := (on_emp_mul.1 hX).alloc (.cells ZB 38 (0, 0))
      exact OpOk.run (v := .pointer (some ⟨X.heap.size, 0, Option.none⟩)) (W' := X.alloc (.cells ZB 38)) (by simp [execOp, hzB, go_sem]) (Multi2.ended_turn rfl trivial ⟨by
        show (Multi2.opt true (Multi2.bv (.pointer (some ⟨X.heap.size, 0, Option.none⟩)) (.cells (if f 6 = true then Ca else ZB) 38 (0, 0))) * _).on _
        rw [fs]
        exact Multi2.blk_bv hX2, hT.2.alloc _⟩ (Multi2.free_keep (by
        intro P hP
        simp only [List.mem_cons, List.not_mem_nil, or_false] at hP
        rcases hP with rfl | rfl | rfl | rfl | rfl | rfl | rfl | rfl <;> exact fun _ _ _ h => h) _ _))
    · intro f hf0 hw hn ev X hT hb hk hf
      have fs : f 7 = false := hn 7 (by kernel_rfl)
      have hX := hT.1
      rw [hf0, Multi2.opt_false, star_2_1] at hX
      have hX2 := (on_emp_mul.1 hX).alloc (.cells ZB 38 (0, 0))
      exact OpOk.run (v := .pointer (some ⟨X.heap.size, 0, Option.none⟩)) (W' := X.alloc (.cells ZB 38)) (by simp [execOp, hzB, go_sem]) (Multi2.ended_turn rfl trivial ⟨by
        show (_ * (Multi2.opt true (Multi2.bv (.pointer (some ⟨X.heap.size, 0, Option.none⟩)) (.cells (if f 7 = true then Cb else ZB) 38 (0, 0))) * _)).on _
        rw [fs, star_2_1]
        exact Multi2.blk_bv hX2, hT.2.alloc _⟩ (Multi2.free_keep (by
        intro P hP
        simp only [List.mem_cons, List.not_mem_nil, or_false] at hP
        rcases hP with rfl | rfl | rfl | rfl | rfl | rfl | rfl | rfl <;> exact fun _ _ _ h => h) _ _))
    · intro f hf0 hw hn ev X hT hb hk hf
      have e0 := hf.1
      have e1 : ev (.tmp 15) = .agg Ca := hf.2.1
      have fa : f 4 = true := hw 4 (by kernel_rfl)
      have hX := hT.1
      rw [fa, hf0] at hX
      have hX' : (Multi2.bv (ev (.tmp 5)) (.cells ZB 38 (0, 0)) * _).on X := hX
      obtain ⟨g, hg, hX2⟩ := Multi2.bv_blk hX'
      exact OpOk.store_agg _ _ _ rfl g Ca hg e1 _ ZB hX2 HsCa.out HzCa.out HoCa.out (fun h3 => Multi2.ended_turn rfl trivial ⟨by
        show (Multi2.opt (f 4) (Multi2.bv (ev (.tmp 5)) (.cells Ca 38 (0, 0))) * _).on _
        rw [fa, hg]
        exact Multi2.blk_bv h3, hT.2.setRow _ _⟩ (Multi2.free_keep (by
        intro P hP
        simp only [List.mem_cons, List.not_mem_nil, or_false] at hP
        rcases hP with rfl | rfl | rfl | rfl | rfl | rfl | rfl | rfl <;> exact fun _ _ _ h => h) _ _))
    · intro f hf0 hw hn ev X hT hb hk hf
      have e0 := hf.1
      have e1 : ev (.tmp 17) = .agg Cb := hf.2.1
      have fa : f 5 = true := hw 5 (by kernel_rfl)
      have hX := hT.1
      rw [fa, hf0, star_2_1] at hX
      have hX' : (Multi2.bv (ev (.tmp 6)) (.cells ZB 38 (0, 0)) * _).on X := hX
      obtain ⟨g, hg, hX2⟩ := Multi2.bv_blk hX'
      exact OpOk.store_agg _ _ _ rfl g Cb hg e1 _ ZB hX2 HsCb.out HzCb.out HoCb.out (fun h3 => Multi2.ended_turn rfl trivial ⟨by
        show (_ * (Multi2.opt (f 5) (Multi2.bv (ev (.tmp 6)) (.cells Cb 38 (0, 0))) * _)).on _
        rw [fa, hg, star_2_1]
        exact Multi2.blk_bv h3, hT.2.setRow _ _⟩ (Multi2.free_keep (by
        intro P hP
        simp only [List.mem_cons, List.not_mem_nil, or_false] at hP
        rcases hP with rfl | rfl | rfl | rfl | rfl | rfl | rfl | rfl <;> exact fun _ _ _ h => h) _ _))
  case rest =>
    intro X s hI
    rintro _ ⟨-, -⟩ _ ⟨-, -⟩ _ ⟨-, -⟩ _ ⟨-, -⟩ v4 ⟨k4, -⟩ v5 ⟨k5, -⟩ _ - _ -
    obtain ⟨hX, hSX⟩ := hI
    have hX0 : ((Multi2.bv (s 4) (.cells Ca 38 (0, 0))) * ((Multi2.bv (s 5) (.cells Cb 38 (0, 0))) * (blk (w.heap.size + 1) (.cells Bb 23 (0, 0)) * (blk (w.heap.size) (.cells Aa 23 (0, 0)) * all w)))).on X := hX
    clear hX
    have h9 := k4 rfl
    rw [← h9] at hX0
    clear h9 k4
    have h9 := k5 rfl
    rw [← h9] at hX0
    clear h9 k5
    obtain ⟨g5, g6, rfl, rfl, hY⟩ := bv_blk2 hX0
    have H3 := hide hY
    have S3 := hide hSX
    clear hX0 hY hSX H2 S2
    go_wp2
    refine Rest.done ?_
    try clear s
    go_wp2_with fail
    refine Multi2.wp_region_multi [4, 5, 6, 7] [4, 5] [6, 7] [isV (.slice (some ⟨g5, 0, Option.none⟩) 32 32), isV (.agg Ma), isV (.slice (some ⟨g6, 0, Option.none⟩) 32 32), isV (.agg Mb), (fun _ _ => True), (fun _ _ => True), (fun _ _ => True), (fun _ _ => True)]
      (by kernel_rfl) (by kernel_rfl) (by kernel_rfl) ⟨rfl, rfl, trivial⟩ (fun f s X => (Multi2.opt (f 4) (Multi2.bv (s 4) (.cells (if f 6 = true then Ma else Z4) 51 (0, 0))) * (Multi2.opt (f 5) (Multi2.bv (s 5) (.cells (if f 7 = true then Mb else Z4) 51 (0, 0))) * ((blk (g5) (.cells Ca 38 (0, 0)) * (blk (g6) (.cells Cb 38 (0, 0)) * (blk (w.heap.size + 1) (.cells Bb 23 (0, 0)) * (blk (w.heap.size) (.cells Aa 23 (0, 0)) * all w))))))).on X ∧ Str w X) (fun _ => ⟨on_emp_mul.2 (on_emp_mul.2 (SP.on.drew H3.out)), Str.drew S3.out⟩) (fun f s a b h st => ⟨h.1.below st, h.2.trans (Str.below st)⟩) (fun f g s t X h h9 hI => by
      have e4 := h 4 rfl
      have e5 := h 5 rfl
      have e6 := h 6 rfl
      have e7 := h 7 rfl
      have i4 := h9 4 rfl
      have i5 := h9 5 rfl
      rw [← e4, ← e5, ← e6, ← e7]
      refine ⟨?_, hI.2⟩
      have := hI.1
      revert this i4 i5
      cases f 4 <;> cases f 5 <;> intro i4 i5 <;> simp_all [Multi2.opt]) ?keep ?todo ?rest (by decide) (by decide)
    case keep => exact ⟨Keep.isV _, Keep.isV _, Keep.isV _, Keep.isV _, fun _ _ _ h _ => h, fun _ _ _ h _ => h, fun _ _ _ h _ => h, fun _ _ _ h _ => h, trivial⟩
    case todo =>
      refine ⟨?_, ?_, ?_, ?_, ?_, ?_, ?_, ?_, trivial⟩
      · intro f hf0 hw hn ev X hT hb hk hf
        have e0 : ev (.tmp 5) = .pointer (some ⟨g5, 0, Option.none⟩) := by have h9 := hk.1; rw [if_pos (by kernel_rfl)] at h9; exact h9
        exact OpOk.run (v := .slice (some ⟨g5, 0, Option.none⟩) 32 32) (W' := X) (by simp [execOp, e0, hub, go_sem]) (Multi2.ended_stay rfl rfl (Stay.refl _))
      · intro f hf0 hw hn ev X hT hb hk hf
        have e0 : ev (.tmp 18) = .slice (some ⟨g5, 0, Option.none⟩) 32 32 := hf.1
        have hby := hkza.out g5 X _ (on_blk_mul hT.1.right.right)
        refine OpOk.enters (f := 26) (args := #[.slice (some ⟨g5, 0, Option.none⟩) 32 32]) (W' := X) (by simp [execOp, resolve, invoke, e0, hb.1, hb.2.1, go_sem]) ((hk3.out _ X hby (TabO.below hTabO.out (all_below hT.1.right.right.right.right.right.right hT.2))).mono ?_)
        rintro e _ ⟨rfl, hB⟩
        exact ⟨_, rfl, Multi2.ended_stay rfl rfl hB⟩
      · intro f hf0 hw hn ev X hT hb hk hf
        have e0 : ev (.tmp 6) = .pointer (some ⟨g6, 0, Option.none⟩) := by have h9 := hk.1; rw [if_pos (by kernel_rfl)] at h9; exact h9
        exact OpOk.run (v := .slice (some ⟨g6, 0, Option.none⟩) 32 32) (W' := X) (by simp [execOp, e0, hub, go_sem]) (Multi2.ended_stay rfl rfl (Stay.refl _))
      · intro f hf0 hw hn ev X hT hb hk hf
        have e0 : ev (.tmp 20) = .slice (some ⟨g6, 0, Option.none⟩) 32 32 := hf.1
        have hby := hkzb.out g6 X _ (on_blk_mul hT.1.right.right.right)
        refine OpOk.enters (f := 26) (args := #[.slice (some ⟨g6, 0, Option.none⟩) 32 32]) (W' := X) (by simp [execOp, resolve, invoke, e0, hb.1, hb.2.1, go_sem]) ((hk4.out _ X hby (TabO.below hTabO.out (all_below hT.1.right.right.right.right.right.right hT.2))).mono ?_)
        rintro e _ ⟨rfl, hB⟩
        exact ⟨_, rfl, Multi2.ended_stay rfl rfl hB⟩
      · intro f hf0 hw hn ev X hT hb hk hf
        have fs : f 6 = false := hn 6 (by kernel_rfl)
        have hX := hT.1
        rw [hf0, Multi2.opt_false] at hX
        have hX2 := (on_emp_mul.1 hX).alloc (.cells Z4 51 (0, 0))
        exact OpOk.run (v := .pointer (some ⟨X.heap.size, 0, Option.none⟩)) (W' := X.alloc (.cells Z4 51)) (by simp [execOp, hzC, go_sem]) (Multi2.ended_turn rfl trivial ⟨by
          show (Multi2.opt true (Multi2.bv (.pointer (some ⟨X.heap.size, 0, Option.none⟩)) (.cells (if f 6 = true then Ma else Z4) 51 (0, 0))) * _).on _
          rw [fs]
          exact Multi2.blk_bv hX2, hT.2.alloc _⟩ (Multi2.free_keep (by
          intro P hP
          simp only [List.mem_cons, List.not_mem_nil, or_false] at hP
          rcases hP with rfl | rfl | rfl | rfl | rfl | rfl | rfl | rfl <;> exact fun _ _ _ h => h) _ _))
      · intro f hf0 hw hn ev X hT hb hk hf
        have fs : f 7 = false := hn 7 (by kernel_rfl)
        have hX := hT.1
        rw [hf0, Multi2.opt_false, star_2_1] at hX
        have hX2 := (on_emp_mul.1 hX).alloc (.cells Z4 51 (0, 0))
        exact OpOk.run (v := .pointer (some ⟨X.heap.size, 0, Option.none⟩)) (W' := X.alloc (.cells Z4 51)) (by simp [execOp, hzC, go_sem]) (Multi2.ended_turn rfl trivial ⟨by
          show (_ * (Multi2.opt true (Multi2.bv (.pointer (some ⟨X.heap.size, 0, Option.none⟩)) (.cells (if f 7 = true then Mb else Z4) 51 (0, 0))) * _)).on _
          rw [fs, star_2_1]
          exact Multi2.blk_bv hX2, hT.2.alloc _⟩ (Multi2.free_keep (by
          intro P hP
          simp only [List.mem_cons, List.not_mem_nil, or_false] at hP
          rcases hP with rfl | rfl | rfl | rfl | rfl | rfl | rfl | rfl <;> exact fun _ _ _ h => h) _ _))
      · intro f hf0 hw hn ev X hT hb hk hf
        have e0 := hf.1
        have e1 : ev (.tmp 19) = .agg Ma := hf.2.1
        have fa : f 4 = true := hw 4 (by kernel_rfl)
        have hX := hT.1
        rw [fa, hf0] at hX
        have hX' : (Multi2.bv (ev (.tmp 7)) (.cells Z4 51 (0, 0)) * _).on X := hX
        obtain ⟨g, hg, hX2⟩ := Multi2.bv_blk hX'
        exact OpOk.store_agg _ _ _ rfl g Ma hg e1 _ Z4 hX2 HsMa.out HzMa.out HoMa.out (fun h3 => Multi2.ended_turn rfl trivial ⟨by
          show (Multi2.opt (f 4) (Multi2.bv (ev (.tmp 7)) (.cells Ma 51 (0, 0))) * _).on _
          rw [fa, hg]
          exact Multi2.blk_bv h3, hT.2.setRow _ _⟩ (Multi2.free_keep (by
          intro P hP
          simp only [List.mem_cons, List.not_mem_nil, or_false] at hP
          rcases hP with rfl | rfl | rfl | rfl | rfl | rfl | rfl | rfl <;> exact fun _ _ _ h => h) _ _))
      · intro f hf0 hw hn ev X hT hb hk hf
        have e0 := hf.1
        have e1 : ev (.tmp 21) = .agg Mb := hf.2.1
        have fa : f 5 = true := hw 5 (by kernel_rfl)
        have hX := hT.1
        rw [fa, hf0, star_2_1] at hX
        have hX' : (Multi2.bv (ev (.tmp 8)) (.cells Z4 51 (0, 0)) * _).on X := hX
        obtain ⟨g, hg, hX2⟩ := Multi2.bv_blk hX'
        exact OpOk.store_agg _ _ _ rfl g Mb hg e1 _ Z4 hX2 HsMb.out HzMb.out HoMb.out (fun h3 => Multi2.ended_turn rfl trivial ⟨by
          show (_ * (Multi2.opt (f 5) (Multi2.bv (ev (.tmp 8)) (.cells Mb 51 (0, 0))) * _)).on _
          rw [fa, hg, star_2_1]
          exact Multi2.blk_bv h3, hT.2.setRow _ _⟩ (Multi2.free_keep (by
          intro P hP
          simp only [List.mem_cons, List.not_mem_nil, or_false] at hP
          rcases hP with rfl | rfl | rfl | rfl | rfl | rfl | rfl | rfl <;> exact fun _ _ _ h => h) _ _))
    case rest =>
      intro X s hI
      rintro _ ⟨-, -⟩ _ ⟨-, -⟩ _ ⟨-, -⟩ _ ⟨-, -⟩ v4 ⟨k4, -⟩ v5 ⟨k5, -⟩ _ - _ -
      obtain ⟨hX, hSX⟩ := hI
      have hX0 : ((Multi2.bv (s 4) (.cells Ma 51 (0, 0))) * ((Multi2.bv (s 5) (.cells Mb 51 (0, 0))) * (blk (g5) (.cells Ca 38 (0, 0)) * (blk (g6) (.cells Cb 38 (0, 0)) * (blk (w.heap.size + 1) (.cells Bb 23 (0, 0)) * (blk (w.heap.size) (.cells Aa 23 (0, 0)) * all w)))))).on X := hX
      clear hX
      have h9 := k4 rfl
      rw [← h9] at hX0
      clear h9 k4
      have h9 := k5 rfl
      rw [← h9] at hX0
      clear h9 k5
      obtain ⟨g7, g8, rfl, rfl, hY⟩ := bv_blk2 hX0
      have H4 := hide hY
      have S4 := hide hSX
      clear hX0 hY hSX H3 S3
      go_wp2
      refine Rest.done ?_
      try clear s
      go_wp2_with fail
      refine Multi2.wp_region_multi [6, 7, 8, 9] [6, 7] [8, 9] [isV (.agg PB), isV (.agg Ma), isV (.agg Pp), isV (.agg PB), isV (.agg Mb), isV (.agg Pq), (fun _ _ => True), (fun _ _ => True), (fun _ _ => True), (fun _ _ => True)]
        (by kernel_rfl) (by kernel_rfl) (by kernel_rfl) ⟨rfl, rfl, trivial⟩ (fun f s X => (Multi2.opt (f 6) (Multi2.bv (s 6) (.cells (if f 8 = true then Pp else Zp) 27 (0, 0))) * (Multi2.opt (f 7) (Multi2.bv (s 7) (.cells (if f 9 = true then Pq else Zp) 27 (0, 0))) * ((blk (g7) (.cells Ma 51 (0, 0)) * (blk (g8) (.cells Mb 51 (0, 0)) * (blk (g5) (.cells Ca 38 (0, 0)) * (blk (g6) (.cells Cb 38 (0, 0)) * (blk (w.heap.size + 1) (.cells Bb 23 (0, 0)) * (blk (w.heap.size) (.cells Aa 23 (0, 0)) * all w))))))))).on X ∧ Str w X) (fun _ => ⟨on_emp_mul.2 (on_emp_mul.2 (SP.on.drew H4.out)), Str.drew S4.out⟩) (fun f s a b h st => ⟨h.1.below st, h.2.trans (Str.below st)⟩) (fun f g s t X h h9 hI => by
      have e6 := h 6 rfl
      have e7 := h 7 rfl
      have e8 := h 8 rfl
      have e9 := h 9 rfl
      have i6 := h9 6 rfl
      have i7 := h9 7 rfl
      rw [← e6, ← e7, ← e8, ← e9]
      refine ⟨?_, hI.2⟩
      have := hI.1
      revert this i6 i7
      cases f 6 <;> cases f 7 <;> intro i6 i7 <;> simp_all [Multi2.opt]) ?keep ?todo ?rest (by decide) (by decide)
      case keep => exact ⟨Keep.isV _, Keep.isV _, Keep.isV _, Keep.isV _, Keep.isV _, Keep.isV _, fun _ _ _ h _ => h, fun _ _ _ h _ => h, fun _ _ _ h _ => h, fun _ _ _ h _ => h, trivial⟩
      case todo =>
        refine ⟨?_, ?_, ?_, ?_, ?_, ?_, ?_, ?_, ?_, ?_, trivial⟩
        · intro f hf0 hw hn ev X hT hb hk hf
          refine OpOk.enters (f := 27) (args := #[]) (W' := X) (by simp [execOp, resolve, invoke, hb.1, hb.2.1, go_sem]) ((hk5.out X (hTab.out.below (all_below hT.1.right.right.right.right.right.right.right.right hT.2))).mono ?_)
          rintro e _ ⟨rfl, hB⟩
          exact ⟨_, rfl, Multi2.ended_stay rfl rfl hB⟩
        · intro f hf0 hw hn ev X hT hb hk hf
          have e0 : ev (.tmp 7) = .pointer (some ⟨g7, 0, Option.none⟩) := by have h9 := hk.1; rw [if_pos (by kernel_rfl)] at h9; exact h9
          exact OpOk.load_row _ _ rfl _ e0 _ Ma (0, 0) _ (on_blk_mul hT.1.right.right) husn rfl HsMa.out (Multi2.ended_stay rfl rfl (Stay.refl _))
        · intro f hf0 hw hn ev X hT hb hk hf
          have e0 : ev (.tmp 22) = .agg PB := hf.1
          have e1 : ev (.tmp 23) = .agg Ma := hf.2.1
          refine OpOk.enters (f := 23) (args := #[.agg PB, .agg Ma]) (W' := X) (by simp [execOp, resolve, invoke, e0, e1, hb.1, hb.2.1, go_sem]) ((hk6.out X (hTab.out.below (all_below hT.1.right.right.right.right.right.right.right.right hT.2))).mono ?_)
          rintro e _ ⟨rfl, hB⟩
          exact ⟨_, rfl, Multi2.ended_stay rfl rfl hB⟩
        · intro f hf0 hw hn ev X hT hb hk hf
          refine OpOk.enters (f := 27) (args := #[]) (W' := X) (by simp [execOp, resolve, invoke, hb.1, hb.2.1, go_sem]) ((hk5.out X (hTab.out.below (all_below hT.1.right.right.right.right.right.right.right.right hT.2))).mono ?_)
          rintro e _ ⟨rfl, hB⟩
          exact ⟨_, rfl, Multi2.ended_stay rfl rfl hB⟩
        · intro f hf0 hw hn ev X hT hb hk hf
          have e0 : ev (.tmp 8) = .pointer (some ⟨g8, 0, Option.none⟩) := by have h9 := hk.1; rw [if_pos (by kernel_rfl)] at h9; exact h9
          exact OpOk.load_row _ _ rfl _ e0 _ Mb (0, 0) _ (on_blk_mul hT.1.right.right.right) husn rfl HsMb.out (Multi2.ended_stay rfl rfl (Stay.refl _))
        · intro f hf0 hw hn ev X hT hb hk hf
          have e0 : ev (.tmp 25) = .agg PB := hf.1
          have e1 : ev (.tmp 26) = .agg Mb := hf.2.1
          refine OpOk.enters (f := 23) (args := #[.agg PB, .agg Mb]) (W' := X) (by simp [execOp, resolve, invoke, e0, e1, hb.1, hb.2.1, go_sem]) ((hk7.out X (hTab.out.below (all_below hT.1.right.right.right.right.right.right.right.right hT.2))).mono ?_)
          rintro e _ ⟨rfl, hB⟩
          exact ⟨_, rfl, Multi2.ended_stay rfl rfl hB⟩
        · intro f hf0 hw hn ev X hT hb hk hf
          have fs : f 8 = false := hn 8 (by kernel_rfl)
          have hX := hT.1
          rw [hf0, Multi2.opt_false] at hX
          have hX2 := (on_emp_mul.1 hX).alloc (.cells Zp 27 (0, 0))
          exact OpOk.run (v := .pointer (some ⟨X.heap.size, 0, Option.none⟩)) (W' := X.alloc (.cells Zp 27)) (by simp [execOp, hzP, go_sem]) (Multi2.ended_turn rfl trivial ⟨by
            show (Multi2.opt true (Multi2.bv (.pointer (some ⟨X.heap.size, 0, Option.none⟩)) (.cells (if f 8 = true then Pp else Zp) 27 (0, 0))) * _).on _
            rw [fs]
            exact Multi2.blk_bv hX2, hT.2.alloc _⟩ (Multi2.free_keep (by
            intro P hP
            simp only [List.mem_cons, List.not_mem_nil, or_false] at hP
            rcases hP with rfl | rfl | rfl | rfl | rfl | rfl | rfl | rfl | rfl | rfl <;> exact fun _ _ _ h => h) _ _))
        · intro f hf0 hw hn ev X hT hb hk hf
          have fs : f 9 = false := hn 9 (by kernel_rfl)
          have hX := hT.1
          rw [hf0, Multi2.opt_false, star_2_1] at hX
          have hX2 := (on_emp_mul.1 hX).alloc (.cells Zp 27 (0, 0))
          exact OpOk.run (v := .pointer (some ⟨X.heap.size, 0, Option.none⟩)) (W' := X.alloc (.cells Zp 27)) (by simp [execOp, hzP, go_sem]) (Multi2.ended_turn rfl trivial ⟨by
            show (_ * (Multi2.opt true (Multi2.bv (.pointer (some ⟨X.heap.size, 0, Option.none⟩)) (.cells (if f 9 = true then Pq else Zp) 27 (0, 0))) * _)).on _
            rw [fs, star_2_1]
            exact Multi2.blk_bv hX2, hT.2.alloc _⟩ (Multi2.free_keep (by
            intro P hP
            simp only [List.mem_cons, List.not_mem_nil, or_false] at hP
            rcases hP with rfl | rfl | rfl | rfl | rfl | rfl | rfl | rfl | rfl | rfl <;> exact fun _ _ _ h => h) _ _))
        · intro f hf0 hw hn ev X hT hb hk hf
          have e0 := hf.1
          have e1 : ev (.tmp 24) = .agg Pp := hf.2.1
          have fa : f 6 = true := hw 6 (by kernel_rfl)
          have hX := hT.1
          rw [fa, hf0] at hX
          have hX' : (Multi2.bv (ev (.tmp 9)) (.cells Zp 27 (0, 0)) * _).on X := hX
          obtain ⟨g, hg, hX2⟩ := Multi2.bv_blk hX'
          exact OpOk.store_agg _ _ _ rfl g Pp hg e1 _ Zp hX2 HsPp.out HzPp.out HoPp.out (fun h3 => Multi2.ended_turn rfl trivial ⟨by
            show (Multi2.opt (f 6) (Multi2.bv (ev (.tmp 9)) (.cells Pp 27 (0, 0))) * _).on _
            rw [fa, hg]
            exact Multi2.blk_bv h3, hT.2.setRow _ _⟩ (Multi2.free_keep (by
            intro P hP
            simp only [List.mem_cons, List.not_mem_nil, or_false] at hP
            rcases hP with rfl | rfl | rfl | rfl | rfl | rfl | rfl | rfl | rfl | rfl <;> exact fun _ _ _ h => h) _ _))
        · intro f hf0 hw hn ev X hT hb hk hf
          have e0 := hf.1
          have e1 : ev (.tmp 27) = .agg Pq := hf.2.1
          have fa : f 7 = true := hw 7 (by kernel_rfl)
          have hX := hT.1
          rw [fa, hf0, star_2_1] at hX
          have hX' : (Multi2.bv (ev (.tmp 10)) (.cells Zp 27 (0, 0)) * _).on X := hX
          obtain ⟨g, hg, hX2⟩ := Multi2.bv_blk hX'
          exact OpOk.store_agg _ _ _ rfl g Pq hg e1 _ Zp hX2 HsPq.out HzPq.out HoPq.out (fun h3 => Multi2.ended_turn rfl trivial ⟨by
            show (_ * (Multi2.opt (f 7) (Multi2.bv (ev (.tmp 10)) (.cells Pq 27 (0, 0))) * _)).on _
            rw [fa, hg, star_2_1]
            exact Multi2.blk_bv h3, hT.2.setRow _ _⟩ (Multi2.free_keep (by
            intro P hP
            simp only [List.mem_cons, List.not_mem_nil, or_false] at hP
            rcases hP with rfl | rfl | rfl | rfl | rfl | rfl | rfl | rfl | rfl | rfl <;> exact fun _ _ _ h => h) _ _))
      case rest =>
        intro X s hI
        rintro _ ⟨-, -⟩ _ ⟨-, -⟩ _ ⟨-, -⟩ _ ⟨-, -⟩ _ ⟨-, -⟩ _ ⟨-, -⟩ v6 ⟨k6, -⟩ v7 ⟨k7, -⟩ _ - _ -
        obtain ⟨hX, hSX⟩ := hI
        have hX0 : ((Multi2.bv (s 6) (.cells Pp 27 (0, 0))) * ((Multi2.bv (s 7) (.cells Pq 27 (0, 0))) * (blk (g7) (.cells Ma 51 (0, 0)) * (blk (g8) (.cells Mb 51 (0, 0)) * (blk (g5) (.cells Ca 38 (0, 0)) * (blk (g6) (.cells Cb 38 (0, 0)) * (blk (w.heap.size + 1) (.cells Bb 23 (0, 0)) * (blk (w.heap.size) (.cells Aa 23 (0, 0)) * all w)))))))).on X := hX
        clear hX
        have h9 := k6 rfl
        rw [← h9] at hX0
        clear h9 k6
        have h9 := k7 rfl
        rw [← h9] at hX0
        clear h9 k7
        obtain ⟨g9, g10, rfl, rfl, hY⟩ := bv_blk2 hX0
        have H5 := hide hY
        have S5 := hide hSX
        clear hX0 hY hSX H4 S4
        go_wp2
        refine Rest.done ?_
        try clear s
        have hN := H5.out.alloc (.cells Zp 27)
        have H30 := hide hN
        have S30 := hide (S5.out.alloc (.cells Zp 27))
        clear hN H5 S5
        go_wp2_with fail
        generalize X.alloc (.cells Zp 27) = w30 at *
        generalize X.heap.size = p11 at *
        have hO0 := hide (TabO.below hTabO.out (all_below H30.out.right.right.right.right.right.right.right.right.right S30.out))
        have hT0 := hide (hTab.out.below (all_below H30.out.right.right.right.right.right.right.right.right.right S30.out))
        refine wp_region_tail 61 [isV (.agg Pp), isV (.agg Pq), fun v X => IsPs X v [ptN p, ptN q], isV (.agg Px), isV (.agg Pq), isV (.agg Pp), fun v X => IsPs X v [ptN q, ptN p], isV (.agg Px), isV (.bool true), isV (.bool true), isV (.agg Pp), isV (.agg Pq), fun v X => IsPs X v [ptN p, ptN q], isV (.agg Px), isV (.agg PB), isV (.agg Ma), isV (.agg Mb), isV (.agg Mn), isV (.agg Px), isV (.bool true), isV (.bool true), isV (.bool true), isV (.agg Pp), isV (.agg Mb), isV (.agg Pz), isV (.agg Pq), isV (.agg Ma), isV (.agg Pz), isV (.bool true), isV (.bool true), isV (.bool true), isV (.agg Pp), isV (.agg Oo), isV (.agg Po), isV (.agg Po), isV (.bool true), isV (.bool true), isV (.bool true), isV (.agg Pp), isV (.agg Pp), isV (.agg Pn), fun v X => IsPs X v [ptN p, ptN p.neg], isV (.agg Po), isV (.agg Zp), isV (.bool true), isV (.bool true), isV (.bool true), isV (.agg Zp), isV (.agg Pp), fun v X => IsPs X v [(0, 0), ptN p], isV (.agg Pp), isV (.agg Pp), isV (.bool true), isV (.bool true), isV (.bool true), isV (.agg Zp), isV (.agg En), isV (.agg Po), isV (.agg En), isV (.bool true), isV (.bool true)]
          (by simp only [List.take_succ_cons, List.take_zero]; rfl) (by simp only [List.drop_succ_cons, List.drop_zero]; rfl) (by kernel_rfl) (by kernel_rfl) (by kernel_rfl) (by decide) rfl ?keep ?todo ?rest
        case keep => exact ⟨Keep.isV _, Keep.isV _, fun _ _ _ h k => IsPs.below h k, Keep.isV _, Keep.isV _, Keep.isV _, fun _ _ _ h k => IsPs.below h k, Keep.isV _, Keep.isV _, Keep.isV _, Keep.isV _, Keep.isV _, fun _ _ _ h k => IsPs.below h k, Keep.isV _, Keep.isV _, Keep.isV _, Keep.isV _, Keep.isV _, Keep.isV _, Keep.isV _, Keep.isV _, Keep.isV _, Keep.isV _, Keep.isV _, Keep.isV _, Keep.isV _, Keep.isV _, Keep.isV _, Keep.isV _, Keep.isV _, Keep.isV _, Keep.isV _, Keep.isV _, Keep.isV _, Keep.isV _, Keep.isV _, Keep.isV _, Keep.isV _, Keep.isV _, Keep.isV _, Keep.isV _, fun _ _ _ h k => IsPs.below h k, Keep.isV _, Keep.isV _, Keep.isV _, Keep.isV _, Keep.isV _, Keep.isV _, Keep.isV _, fun _ _ _ h k => IsPs.below h k, Keep.isV _, Keep.isV _, Keep.isV _, Keep.isV _, Keep.isV _, Keep.isV _, Keep.isV _, Keep.isV _, Keep.isV _, Keep.isV _, Keep.isV _, trivial⟩
        case todo =>
          refine ⟨?_, ?_, ?_, ?_, ?_, ?_, ?_, ?_, ?_, ?_, ?_, ?_, ?_, ?_, ?_, ?_, ?_, ?_, ?_, ?_, ?_, ?_, ?_, ?_, ?_, ?_, ?_, ?_, ?_, ?_, ?_, ?_, ?_, ?_, ?_, ?_, ?_, ?_, ?_, ?_, ?_, ?_, ?_, ?_, ?_, ?_, ?_, ?_, ?_, ?_, ?_, ?_, ?_, ?_, ?_, ?_, ?_, ?_, ?_, ?_, ?_, trivial⟩
          · intro ev X hT hb hk hf
            have e0 : ev (.tmp 9) = .pointer (some ⟨g9, 0, Option.none⟩) := hk.1
            exact OpOk.load_row _ _ rfl _ e0 _ Pp (0, 0) _ (on_blk_mul (H30.out.below hT).right) hup rfl HsPp.out ⟨rfl, Stay.refl _⟩
          · intro ev X hT hb hk hf
            have e0 : ev (.tmp 10) = .pointer (some ⟨g10, 0, Option.none⟩) := hk.1
            exact OpOk.load_row _ _ rfl _ e0 _ Pq (0, 0) _ (on_blk_mul (H30.out.below hT).right.right) hup rfl HsPq.out ⟨rfl, Stay.refl _⟩
          · intro ev X hT hb hk hf
            have e0 : ev (.tmp 28) = .agg Pp := hf.1
            have e1 : ev (.tmp 29) = .agg Pq := hf.2.1
            exact OpOk.run (v := .slice (some ⟨X.heap.size, 0, Option.none⟩) 2 2) (W' := X.alloc (.cells C1 27)) (by simp [execOp, e0, e1, hp1.out X]) ⟨hC1.out X, (Below.refl X.heap.size X).alloc (Nat.le_refl _) _⟩
          · intro ev X hT hb hk hf
            have e0 : IsPs X (ev (.tmp 30)) [ptN p, ptN q] := hf.1
            have eS : IsPs X (ev (.tmp 30)) [ptN p, ptN q] := hf.1
            refine OpOk.enters (f := 11) (args := #[ev (.tmp 30)]) (W' := X) (by simp [execOp, resolve, invoke, hb.1, hb.2.1, go_sem]) ((hk14.out _ X eS (hT0.out.below hT)).mono ?_)
            rintro e _ ⟨rfl, hB⟩
            exact ⟨_, rfl, rfl, hB⟩
          · intro ev X hT hb hk hf
            have e0 : ev (.tmp 10) = .pointer (some ⟨g10, 0, Option.none⟩) := hk.1
            exact OpOk.load_row _ _ rfl _ e0 _ Pq (0, 0) _ (on_blk_mul (H30.out.below hT).right.right) hup rfl HsPq.out ⟨rfl, Stay.refl _⟩
          · intro ev X hT hb hk hf
            have e0 : ev (.tmp 9) = .pointer (some ⟨g9, 0, Option.none⟩) := hk.1
            exact OpOk.load_row _ _ rfl _ e0 _ Pp (0, 0) _ (on_blk_mul (H30.out.below hT).right) hup rfl HsPp.out ⟨rfl, Stay.refl _⟩
          · intro ev X hT hb hk hf
            have e0 : ev (.tmp 32) = .agg Pq := hf.1
            have e1 : ev (.tmp 33) = .agg Pp := hf.2.1
            exact OpOk.run (v := .slice (some ⟨X.heap.size, 0, Option.none⟩) 2 2) (W' := X.alloc (.cells C2 27)) (by simp [execOp, e0, e1, hp2.out X]) ⟨hC2.out X, (Below.refl X.heap.size X).alloc (Nat.le_refl _) _⟩
          · intro ev X hT hb hk hf
            have e0 : IsPs X (ev (.tmp 34)) [ptN q, ptN p] := hf.1
            have eS : IsPs X (ev (.tmp 34)) [ptN q, ptN p] := hf.1
            refine OpOk.enters (f := 11) (args := #[ev (.tmp 34)]) (W' := X) (by simp [execOp, resolve, invoke, hb.1, hb.2.1, go_sem]) ((hk15.out _ X eS (hT0.out.below hT)).mono ?_)
            rintro e _ ⟨rfl, hB⟩
            exact ⟨_, rfl, rfl, hB⟩
          · intro ev X hT hb hk hf
            have e0 : ev (.tmp 31) = .agg Px := hf.1
            have e1 : ev (.tmp 35) = .agg Px := hf.2.1
            refine OpOk.enters (f := 18) (args := #[.agg Px, .agg Px]) (W' := X) (by simp [execOp, resolve, invoke, e0, e1, hb.1, hb.2.1, go_sem]) ((hk16.out X).mono ?_)
            rintro e _ ⟨rfl, hB⟩
            exact ⟨_, rfl, rfl, hB⟩
          · intro ev X hT hb hk hf
            have e0 : ev (.tmp 36) = .bool true := hf.1
            exact OpOk.move rfl e0 ⟨rfl, Stay.refl _⟩
          · intro ev X hT hb hk hf
            refine ⟨true, hf.1, fun _ => ?_, fun h => (h rfl).elim⟩
            have e0 : ev (.tmp 9) = .pointer (some ⟨g9, 0, Option.none⟩) := hk.1
            exact OpOk.load_row _ _ rfl _ e0 _ Pp (0, 0) _ (on_blk_mul (H30.out.below hT).right) hup rfl HsPp.out ⟨rfl, Stay.refl _⟩
          · intro ev X hT hb hk hf
            refine ⟨true, hf.1, fun _ => ?_, fun h => (h rfl).elim⟩
            have e0 : ev (.tmp 10) = .pointer (some ⟨g10, 0, Option.none⟩) := hk.1
            exact OpOk.load_row _ _ rfl _ e0 _ Pq (0, 0) _ (on_blk_mul (H30.out.below hT).right.right) hup rfl HsPq.out ⟨rfl, Stay.refl _⟩
          · intro ev X hT hb hk hf
            refine ⟨true, hf.2.2.1, fun _ => ?_, fun h => (h rfl).elim⟩
            have e0 : ev (.tmp 38) = .agg Pp := hf.1
            have e1 : ev (.tmp 39) = .agg Pq := hf.2.1
            exact OpOk.run (v := .slice (some ⟨X.heap.size, 0, Option.none⟩) 2 2) (W' := X.alloc (.cells C1 27)) (by simp [execOp, e0, e1, hp1.out X]) ⟨hC1.out X, (Below.refl X.heap.size X).alloc (Nat.le_refl _) _⟩
          · intro ev X hT hb hk hf
            refine ⟨true, hf.2.1, fun _ => ?_, fun h => (h rfl).elim⟩
            have e0 : IsPs X (ev (.tmp 40)) [ptN p, ptN q] := hf.1
            have eS : IsPs X (ev (.tmp 40)) [ptN p, ptN q] := hf.1
            refine OpOk.enters (f := 11) (args := #[ev (.tmp 40)]) (W' := X) (by simp [execOp, resolve, invoke, hb.1, hb.2.1, go_sem]) ((hk14.out _ X eS (hT0.out.below hT)).mono ?_)
            rintro e _ ⟨rfl, hB⟩
            exact ⟨_, rfl, rfl, hB⟩
          · intro ev X hT hb hk hf
            refine ⟨true, hf.2.1, fun _ => ?_, fun h => (h rfl).elim⟩
            refine OpOk.enters (f := 27) (args := #[]) (W' := X) (by simp [execOp, resolve, invoke, hb.1, hb.2.1, go_sem]) ((hk5.out X (hT0.out.below hT)).mono ?_)
            rintro e _ ⟨rfl, hB⟩
            exact ⟨_, rfl, rfl, hB⟩
          · intro ev X hT hb hk hf
            refine ⟨true, hf.1, fun _ => ?_, fun h => (h rfl).elim⟩
            have e0 : ev (.tmp 7) = .pointer (some ⟨g7, 0, Option.none⟩) := hk.1
            exact OpOk.load_row _ _ rfl _ e0 _ Ma (0, 0) _ (on_blk_mul (H30.out.below hT).right.right.right) husn rfl HsMa.out ⟨rfl, Stay.refl _⟩
          · intro ev X hT hb hk hf
            refine ⟨true, hf.1, fun _ => ?_, fun h => (h rfl).elim⟩
            have e0 : ev (.tmp 8) = .pointer (some ⟨g8, 0, Option.none⟩) := hk.1
            exact OpOk.load_row _ _ rfl _ e0 _ Mb (0, 0) _ (on_blk_mul (H30.out.below hT).right.right.right.right) husn rfl HsMb.out ⟨rfl, Stay.refl _⟩
          · intro ev X hT hb hk hf
            refine ⟨true, hf.2.2.2.1, fun _ => ?_, fun h => (h rfl).elim⟩
            have e0 : ev (.tmp 43) = .agg Ma := hf.1
            have e1 : ev (.tmp 44) = .agg Mb := hf.2.1
            refine OpOk.enters (f := 28) (args := #[.agg Ma, .agg Mb]) (W' := X) (by simp [execOp, resolve, invoke, e0, e1, hb.1, hb.2.1, go_sem]) ((hk8.out X (TabO.below hO0.out hT)).mono ?_)
            rintro e _ ⟨rfl, hB⟩
            exact ⟨_, rfl, rfl, hB⟩
          · intro ev X hT hb hk hf
            refine ⟨true, hf.2.2.2.1, fun _ => ?_, fun h => (h rfl).elim⟩
            have e0 : ev (.tmp 42) = .agg PB := hf.1
            have e1 : ev (.tmp 45) = .agg Mn := hf.2.1
            refine OpOk.enters (f := 23) (args := #[.agg PB, .agg Mn]) (W' := X) (by simp [execOp, resolve, invoke, e0, e1, hb.1, hb.2.1, go_sem]) ((hk9.out X (hT0.out.below hT)).mono ?_)
            rintro e _ ⟨rfl, hB⟩
            exact ⟨_, rfl, rfl, hB⟩
          · intro ev X hT hb hk hf
            refine ⟨true, hf.2.2.2.1, fun _ => ?_, fun h => (h rfl).elim⟩
            have e0 : ev (.tmp 41) = .agg Px := hf.1
            have e1 : ev (.tmp 46) = .agg Px := hf.2.1
            refine OpOk.enters (f := 18) (args := #[.agg Px, .agg Px]) (W' := X) (by simp [execOp, resolve, invoke, e0, e1, hb.1, hb.2.1, go_sem]) ((hk16.out X).mono ?_)
            rintro e _ ⟨rfl, hB⟩
            exact ⟨_, rfl, rfl, hB⟩
          · intro ev X hT hb hk hf
            have e0 : ev (.tmp 37) = .bool true := hf.1
            have e1 : ev (.tmp 47) = .bool true := hf.2.1
            exact OpOk.run (v := .bool true) (W' := X) (by simp [execOp, e0, e1, hb, hb.1, hb.2.1, hb.2.2, go_sem]) ⟨rfl, Stay.refl _⟩
          · intro ev X hT hb hk hf
            have e0 : ev (.tmp 48) = .bool true := hf.1
            exact OpOk.move rfl e0 ⟨rfl, Stay.refl _⟩
          · intro ev X hT hb hk hf
            refine ⟨true, hf.1, fun _ => ?_, fun h => (h rfl).elim⟩
            have e0 : ev (.tmp 9) = .pointer (some ⟨g9, 0, Option.none⟩) := hk.1
            exact OpOk.load_row _ _ rfl _ e0 _ Pp (0, 0) _ (on_blk_mul (H30.out.below hT).right) hup rfl HsPp.out ⟨rfl, Stay.refl _⟩
          · intro ev X hT hb hk hf
            refine ⟨true, hf.1, fun _ => ?_, fun h => (h rfl).elim⟩
            have e0 : ev (.tmp 8) = .pointer (some ⟨g8, 0, Option.none⟩) := hk.1
            exact OpOk.load_row _ _ rfl _ e0 _ Mb (0, 0) _ (on_blk_mul (H30.out.below hT).right.right.right.right) husn rfl HsMb.out ⟨rfl, Stay.refl _⟩
          · intro ev X hT hb hk hf
            refine ⟨true, hf.2.2.1, fun _ => ?_, fun h => (h rfl).elim⟩
            have e0 : ev (.tmp 50) = .agg Pp := hf.1
            have e1 : ev (.tmp 51) = .agg Mb := hf.2.1
            refine OpOk.enters (f := 23) (args := #[.agg Pp, .agg Mb]) (W' := X) (by simp [execOp, resolve, invoke, e0, e1, hb.1, hb.2.1, go_sem]) ((hk10.out X (hT0.out.below hT)).mono ?_)
            rintro e _ ⟨rfl, hB⟩
            exact ⟨_, rfl, rfl, hB⟩
          · intro ev X hT hb hk hf
            refine ⟨true, hf.1, fun _ => ?_, fun h => (h rfl).elim⟩
            have e0 : ev (.tmp 10) = .pointer (some ⟨g10, 0, Option.none⟩) := hk.1
            exact OpOk.load_row _ _ rfl _ e0 _ Pq (0, 0) _ (on_blk_mul (H30.out.below hT).right.right) hup rfl HsPq.out ⟨rfl, Stay.refl _⟩
          · intro ev X hT hb hk hf
            refine ⟨true, hf.1, fun _ => ?_, fun h => (h rfl).elim⟩
            have e0 : ev (.tmp 7) = .pointer (some ⟨g7, 0, Option.none⟩) := hk.1
            exact OpOk.load_row _ _ rfl _ e0 _ Ma (0, 0) _ (on_blk_mul (H30.out.below hT).right.right.right) husn rfl HsMa.out ⟨rfl, Stay.refl _⟩
          · intro ev X hT hb hk hf
            refine ⟨true, hf.2.2.2.1, fun _ => ?_, fun h => (h rfl).elim⟩
            have e0 : ev (.tmp 53) = .agg Pq := hf.1
            have e1 : ev (.tmp 54) = .agg Ma := hf.2.1
            refine OpOk.enters (f := 23) (args := #[.agg Pq, .agg Ma]) (W' := X) (by simp [execOp, resolve, invoke, e0, e1, hb.1, hb.2.1, go_sem]) ((hk11.out X (hT0.out.below hT)).mono ?_)
            rintro e _ ⟨rfl, hB⟩
            exact ⟨_, rfl, rfl, hB⟩
          · intro ev X hT hb hk hf
            refine ⟨true, hf.2.2.2.1, fun _ => ?_, fun h => (h rfl).elim⟩
            have e0 : ev (.tmp 52) = .agg Pz := hf.1
            have e1 : ev (.tmp 55) = .agg Pz := hf.2.1
            refine OpOk.enters (f := 18) (args := #[.agg Pz, .agg Pz]) (W' := X) (by simp [execOp, resolve, invoke, e0, e1, hb.1, hb.2.1, go_sem]) ((hk17.out X).mono ?_)
            rintro e _ ⟨rfl, hB⟩
            exact ⟨_, rfl, rfl, hB⟩
          · intro ev X hT hb hk hf
            have e0 : ev (.tmp 49) = .bool true := hf.1
            have e1 : ev (.tmp 56) = .bool true := hf.2.1
            exact OpOk.run (v := .bool true) (W' := X) (by simp [execOp, e0, e1, hb, hb.1, hb.2.1, hb.2.2, go_sem]) ⟨rfl, Stay.refl _⟩
          · intro ev X hT hb hk hf
            have e0 : ev (.tmp 57) = .bool true := hf.1
            exact OpOk.move rfl e0 ⟨rfl, Stay.refl _⟩
          · intro ev X hT hb hk hf
            refine ⟨true, hf.1, fun _ => ?_, fun h => (h rfl).elim⟩
            have e0 : ev (.tmp 9) = .pointer (some ⟨g9, 0, Option.none⟩) := hk.1
            exact OpOk.load_row _ _ rfl _ e0 _ Pp (0, 0) _ (on_blk_mul (H30.out.below hT).right) hup rfl HsPp.out ⟨rfl, Stay.refl _⟩
          · intro ev X hT hb hk hf
            refine ⟨true, hf.1, fun _ => ?_, fun h => (h rfl).elim⟩
            refine OpOk.enters (f := 29) (args := #[]) (W' := X) (by simp [execOp, resolve, invoke, hb.1, hb.2.1, go_sem]) ((hk13.out X (TabO.below hO0.out hT)).mono ?_)
            rintro e _ ⟨rfl, hB⟩
            exact ⟨_, rfl, rfl, hB⟩
          · intro ev X hT hb hk hf
            refine ⟨true, hf.2.2.2.1, fun _ => ?_, fun h => (h rfl).elim⟩
            have e0 : ev (.tmp 59) = .agg Pp := hf.1
            have e1 : ev (.tmp 60) = .agg Oo := hf.2.1
            refine OpOk.enters (f := 23) (args := #[.agg Pp, .agg Oo]) (W' := X) (by simp [execOp, resolve, invoke, e0, e1, hb.1, hb.2.1, go_sem]) ((hk12.out X (hT0.out.below hT)).mono ?_)
            rintro e _ ⟨rfl, hB⟩
            exact ⟨_, rfl, rfl, hB⟩
          · intro ev X hT hb hk hf
            refine ⟨true, hf.2.1, fun _ => ?_, fun h => (h rfl).elim⟩
            refine OpOk.enters (f := 20) (args := #[]) (W' := X) (by simp [execOp, resolve, invoke, hb.1, hb.2.1, go_sem]) ((hk18.out X).mono ?_)
            rintro e _ ⟨rfl, hB⟩
            exact ⟨_, rfl, rfl, hB⟩
          · intro ev X hT hb hk hf
            refine ⟨true, hf.2.2.2.1, fun _ => ?_, fun h => (h rfl).elim⟩
            have e0 : ev (.tmp 61) = .agg Po := hf.1
            have e1 : ev (.tmp 62) = .agg Po := hf.2.1
            refine OpOk.enters (f := 18) (args := #[.agg Po, .agg Po]) (W' := X) (by simp [execOp, resolve, invoke, e0, e1, hb.1, hb.2.1, go_sem]) ((hk19.out X).mono ?_)
            rintro e _ ⟨rfl, hB⟩
            exact ⟨_, rfl, rfl, hB⟩
          · intro ev X hT hb hk hf
            have e0 : ev (.tmp 58) = .bool true := hf.1
            have e1 : ev (.tmp 63) = .bool true := hf.2.1
            exact OpOk.run (v := .bool true) (W' := X) (by simp [execOp, e0, e1, hb, hb.1, hb.2.1, hb.2.2, go_sem]) ⟨rfl, Stay.refl _⟩
          · intro ev X hT hb hk hf
            have e0 : ev (.tmp 64) = .bool true := hf.1
            exact OpOk.move rfl e0 ⟨rfl, Stay.refl _⟩
          · intro ev X hT hb hk hf
            refine ⟨true, hf.1, fun _ => ?_, fun h => (h rfl).elim⟩
            have e0 : ev (.tmp 9) = .pointer (some ⟨g9, 0, Option.none⟩) := hk.1
            exact OpOk.load_row _ _ rfl _ e0 _ Pp (0, 0) _ (on_blk_mul (H30.out.below hT).right) hup rfl HsPp.out ⟨rfl, Stay.refl _⟩
          · intro ev X hT hb hk hf
            refine ⟨true, hf.1, fun _ => ?_, fun h => (h rfl).elim⟩
            have e0 : ev (.tmp 9) = .pointer (some ⟨g9, 0, Option.none⟩) := hk.1
            exact OpOk.load_row _ _ rfl _ e0 _ Pp (0, 0) _ (on_blk_mul (H30.out.below hT).right) hup rfl HsPp.out ⟨rfl, Stay.refl _⟩
          · intro ev X hT hb hk hf
            refine ⟨true, hf.2.1, fun _ => ?_, fun h => (h rfl).elim⟩
            have e0 : ev (.tmp 67) = .agg Pp := hf.1
            refine OpOk.enters (f := 12) (args := #[.agg Pp]) (W' := X) (by simp [execOp, resolve, invoke, e0, hb.1, hb.2.1, go_sem]) ((hk20.out X (hT0.out.below hT)).mono ?_)
            rintro e _ ⟨rfl, hB⟩
            exact ⟨_, rfl, rfl, hB⟩
          · intro ev X hT hb hk hf
            refine ⟨true, hf.2.2.1, fun _ => ?_, fun h => (h rfl).elim⟩
            have e0 : ev (.tmp 66) = .agg Pp := hf.1
            have e1 : ev (.tmp 68) = .agg Pn := hf.2.1
            exact OpOk.run (v := .slice (some ⟨X.heap.size, 0, Option.none⟩) 2 2) (W' := X.alloc (.cells C3 27)) (by simp [execOp, e0, e1, hp3.out X]) ⟨hC3.out X, (Below.refl X.heap.size X).alloc (Nat.le_refl _) _⟩
          · intro ev X hT hb hk hf
            refine ⟨true, hf.2.2.1, fun _ => ?_, fun h => (h rfl).elim⟩
            have e0 : IsPs X (ev (.tmp 69)) [ptN p, ptN p.neg] := hf.1
            have eS : IsPs X (ev (.tmp 69)) [ptN p, ptN p.neg] := hf.1
            refine OpOk.enters (f := 11) (args := #[ev (.tmp 69)]) (W' := X) (by simp [execOp, resolve, invoke, hb.1, hb.2.1, go_sem]) ((hk21.out _ X eS (hT0.out.below hT)).mono ?_)
            rintro e _ ⟨rfl, hB⟩
            exact ⟨_, rfl, rfl, hB⟩
          · intro ev X hT hb hk hf
            refine ⟨true, hf.1, fun _ => ?_, fun h => (h rfl).elim⟩
            have e0 : ev (.tmp 11) = .pointer (some ⟨p11, 0, Option.none⟩) := hk.1
            exact OpOk.load_row _ _ rfl _ e0 _ Zp (0, 0) _ (on_blk_mul (H30.out.below hT)) hup rfl HsZp.out ⟨rfl, Stay.refl _⟩
          · intro ev X hT hb hk hf
            refine ⟨true, hf.2.2.2.1, fun _ => ?_, fun h => (h rfl).elim⟩
            have e0 : ev (.tmp 70) = .agg Po := hf.1
            have e1 : ev (.tmp 71) = .agg Zp := hf.2.1
            refine OpOk.enters (f := 18) (args := #[.agg Po, .agg Zp]) (W' := X) (by simp [execOp, resolve, invoke, e0, e1, hb.1, hb.2.1, go_sem]) ((hk22.out X).mono ?_)
            rintro e _ ⟨rfl, hB⟩
            exact ⟨_, rfl, rfl, hB⟩
          · intro ev X hT hb hk hf
            have e0 : ev (.tmp 65) = .bool true := hf.1
            have e1 : ev (.tmp 72) = .bool true := hf.2.1
            exact OpOk.run (v := .bool true) (W' := X) (by simp [execOp, e0, e1, hb, hb.1, hb.2.1, hb.2.2, go_sem]) ⟨rfl, Stay.refl _⟩
          · intro ev X hT hb hk hf
            have e0 : ev (.tmp 73) = .bool true := hf.1
            exact OpOk.move rfl e0 ⟨rfl, Stay.refl _⟩
          · intro ev X hT hb hk hf
            refine ⟨true, hf.1, fun _ => ?_, fun h => (h rfl).elim⟩
            have e0 : ev (.tmp 11) = .pointer (some ⟨p11, 0, Option.none⟩) := hk.1
            exact OpOk.load_row _ _ rfl _ e0 _ Zp (0, 0) _ (on_blk_mul (H30.out.below hT)) hup rfl HsZp.out ⟨rfl, Stay.refl _⟩
          · intro ev X hT hb hk hf
            refine ⟨true, hf.1, fun _ => ?_, fun h => (h rfl).elim⟩
            have e0 : ev (.tmp 9) = .pointer (some ⟨g9, 0, Option.none⟩) := hk.1
            exact OpOk.load_row _ _ rfl _ e0 _ Pp (0, 0) _ (on_blk_mul (H30.out.below hT).right) hup rfl HsPp.out ⟨rfl, Stay.refl _⟩
          · intro ev X hT hb hk hf
            refine ⟨true, hf.2.2.1, fun _ => ?_, fun h => (h rfl).elim⟩
            have e0 : ev (.tmp 75) = .agg Zp := hf.1
            have e1 : ev (.tmp 76) = .agg Pp := hf.2.1
            exact OpOk.run (v := .slice (some ⟨X.heap.size, 0, Option.none⟩) 2 2) (W' := X.alloc (.cells C4 27)) (by simp [execOp, e0, e1, hp4.out X]) ⟨hC4.out X, (Below.refl X.heap.size X).alloc (Nat.le_refl _) _⟩
          · intro ev X hT hb hk hf
            refine ⟨true, hf.2.1, fun _ => ?_, fun h => (h rfl).elim⟩
            have e0 : IsPs X (ev (.tmp 77)) [(0, 0), ptN p] := hf.1
            have eS : IsPs X (ev (.tmp 77)) [(0, 0), ptN p] := hf.1
            refine OpOk.enters (f := 11) (args := #[ev (.tmp 77)]) (W' := X) (by simp [execOp, resolve, invoke, hb.1, hb.2.1, go_sem]) ((hk23.out _ X eS (hT0.out.below hT)).mono ?_)
            rintro e _ ⟨rfl, hB⟩
            exact ⟨_, rfl, rfl, hB⟩
          · intro ev X hT hb hk hf
            refine ⟨true, hf.1, fun _ => ?_, fun h => (h rfl).elim⟩
            have e0 : ev (.tmp 9) = .pointer (some ⟨g9, 0, Option.none⟩) := hk.1
            exact OpOk.load_row _ _ rfl _ e0 _ Pp (0, 0) _ (on_blk_mul (H30.out.below hT).right) hup rfl HsPp.out ⟨rfl, Stay.refl _⟩
          · intro ev X hT hb hk hf
            refine ⟨true, hf.2.2.2.1, fun _ => ?_, fun h => (h rfl).elim⟩
            have e0 : ev (.tmp 78) = .agg Pp := hf.1
            have e1 : ev (.tmp 79) = .agg Pp := hf.2.1
            refine OpOk.enters (f := 18) (args := #[.agg Pp, .agg Pp]) (W' := X) (by simp [execOp, resolve, invoke, e0, e1, hb.1, hb.2.1, go_sem]) ((hk24.out X).mono ?_)
            rintro e _ ⟨rfl, hB⟩
            exact ⟨_, rfl, rfl, hB⟩
          · intro ev X hT hb hk hf
            have e0 : ev (.tmp 74) = .bool true := hf.1
            have e1 : ev (.tmp 80) = .bool true := hf.2.1
            exact OpOk.run (v := .bool true) (W' := X) (by simp [execOp, e0, e1, hb, hb.1, hb.2.1, hb.2.2, go_sem]) ⟨rfl, Stay.refl _⟩
          · intro ev X hT hb hk hf
            have e0 : ev (.tmp 81) = .bool true := hf.1
            exact OpOk.move rfl e0 ⟨rfl, Stay.refl _⟩
          · intro ev X hT hb hk hf
            refine ⟨true, hf.1, fun _ => ?_, fun h => (h rfl).elim⟩
            have e0 : ev (.tmp 11) = .pointer (some ⟨p11, 0, Option.none⟩) := hk.1
            exact OpOk.load_row _ _ rfl _ e0 _ Zp (0, 0) _ (on_blk_mul (H30.out.below hT)) hup rfl HsZp.out ⟨rfl, Stay.refl _⟩
          · intro ev X hT hb hk hf
            refine ⟨true, hf.2.1, fun _ => ?_, fun h => (h rfl).elim⟩
            have e0 : ev (.tmp 83) = .agg Zp := hf.1
            refine OpOk.enters (f := 15) (args := #[.agg Zp]) (W' := X) (by simp [execOp, resolve, invoke, e0, hb.1, hb.2.1, go_sem]) ((hk25.out X).mono ?_)
            rintro e _ ⟨rfl, hB⟩
            exact ⟨_, rfl, rfl, hB⟩
          · intro ev X hT hb hk hf
            refine ⟨true, hf.2.1, fun _ => ?_, fun h => (h rfl).elim⟩
            refine OpOk.enters (f := 20) (args := #[]) (W' := X) (by simp [execOp, resolve, invoke, hb.1, hb.2.1, go_sem]) ((hk18.out X).mono ?_)
            rintro e _ ⟨rfl, hB⟩
            exact ⟨_, rfl, rfl, hB⟩
          · intro ev X hT hb hk hf
            refine ⟨true, hf.2.2.1, fun _ => ?_, fun h => (h rfl).elim⟩
            have e0 : ev (.tmp 85) = .agg Po := hf.1
            refine OpOk.enters (f := 15) (args := #[.agg Po]) (W' := X) (by simp [execOp, resolve, invoke, e0, hb.1, hb.2.1, go_sem]) ((hk26.out X).mono ?_)
            rintro e _ ⟨rfl, hB⟩
            exact ⟨_, rfl, rfl, hB⟩
          · intro ev X hT hb hk hf
            refine ⟨true, hf.2.2.1, fun _ => ?_, fun h => (h rfl).elim⟩
            have e0 : ev (.tmp 84) = .agg En := hf.1
            have e1 : ev (.tmp 86) = .agg En := hf.2.1
            exact OpOk.run (v := .bool true) (W' := X) (by
              unfold execOp
              simp only [e0, e1, Sem.run_bind, run_eqGuard_agg X _ _ _ _ _ _ HgdB.out, run_eql_struct, HE1.out X, Result.andThen_ok]
              rfl) ⟨rfl, Stay.refl _⟩
          · intro ev X hT hb hk hf
            have e0 : ev (.tmp 82) = .bool true := hf.1
            have e1 : ev (.tmp 87) = .bool true := hf.2.1
            exact OpOk.run (v := .bool true) (W' := X) (by simp [execOp, e0, e1, hb, hb.1, hb.2.1, hb.2.2, go_sem]) ⟨rfl, Stay.refl _⟩
        case rest =>
          intro w31 hX
          rintro _ rfl _ rfl _ - _ rfl _ rfl _ rfl _ - _ rfl _ rfl _ rfl _ rfl _ rfl _ - _ rfl _ rfl _ rfl _ rfl _ rfl _ rfl _ rfl _ rfl _ rfl _ rfl _ rfl _ rfl _ rfl _ rfl _ rfl _ rfl _ rfl _ rfl _ rfl _ rfl _ rfl _ rfl _ rfl _ rfl _ rfl _ rfl _ rfl _ rfl _ - _ rfl _ rfl _ rfl _ rfl _ rfl _ rfl _ rfl _ - _ rfl _ rfl _ rfl _ rfl _ rfl _ rfl _ rfl _ rfl _ rfl _ rfl _ rfl
          have H31 := hide (H30.out.below hX)
          have S31 := hide (S30.out.trans (Str.below hX))
          clear hX H30 S30
          clear hT0
          go_wp2
          refine Rest.done ?_
          have HB := hide (all_below H31.out.right.right.right.right.right.right.right.right.right S31.out)
          go_wp2_with fail
          go_ret
          exact ⟨rfl, HB.out⟩
end Cv
open Go.ChangeShapes Go.WideShapes Go.ChangeAt Go.RowKit
theorem walk_CurveRules (w : World) (hL : laidMetH Tryd.prog Rows.curveRulesRow.laid w) (a : Nat) (ha : a < 18446744073709551616 ^ 4) (b : Nat) (hb : b < 18446744073709551616 ^ 4) :
    Calls Tryd.prog 5 #[.agg (q4 a), .agg (q4 b)] w fun e w' => e = .returned (.bool true) ∧ Below w.heap.size w w' := Cv.walk_CurveRules w hL a ha b hb
namespace lawCurveRules
theorem own : ownKnob Tryd.prog.godebug = Option.none := by kernel_rfl
theorem laidOut : laidOutB Tryd.prog = true := by kernel_rfl

set_option maxRecDepth 100000 in
theorem contract (H : Type) (enc : TypeId × Value → H) (W : World) (base : Nat) (args : Array Value) (ds gs : List (DataW H)) (before : List MemPlace)
    (hval0 : ∀ (j : Nat) t v, Tryd.f5.params[j]? = some t → args[j]? = some v → Value.okWide Tryd.prog W .any base t v)
    (hW : DataW.Whole enc Tryd.prog Tryd.f5.params.toList Rows.curveRulesSpec.vars false W args.toList ds gs before) (hsz : (DataW.weightsEach Tryd.prog (Tryd.f5.params.toList ++ (OpenSpec.ofChange Rows.curveRulesSpec).bare.plain.varTypes Tryd.prog) (ds ++ gs)).all (· ≤ reachBytes) = true) (hL : laidMetH Tryd.prog Rows.curveRulesRow.laid W) :
    Calls Tryd.prog 5 args W fun e W' => ∃ v, e = .returned v ∧ Rows.curveRulesSpec.post enc Tryd.prog Tryd.f5 false true false false W args v W' := by
  have hval : ∀ (j : Nat) t v, Tryd.f5.params[j]? = some t → args[j]? = some v → Value.okWide Tryd.prog W .any base t v := hval0
  have hW' := hW
  obtain ⟨p, q, hA0, hV, rfl, hfz, hnd⟩ := hW
  have hA : DataW.TrodAll enc Tryd.prog W 0 (fun _ => true) true Tryd.f5.params.toList args.toList ds p := hA0
  rw [Tryd.params5] at hA hval
  obtain ⟨v0, vs0, d0, ds0, p0, q0, hargs, rfl, rfl, h0, r0⟩ := trodAll_cons hA
  obtain ⟨v1, vs1, d1, ds1, p1, q1, rfl, rfl, rfl, h1, r1⟩ := trodAll_cons r0
  obtain ⟨rfl, rfl, rfl⟩ := trodAll_nil r1
  obtain rfl : args = #[v0, v1] := by cases args; simp_all
  obtain ⟨rfl, rfl⟩ := trodVars_none hV
  have k0 := h0
  have lt0 : ∀ x ∈ p0, x.block < W.heap.size := by obtain ⟨m, hm⟩ := k0; exact DataW.trod_lt m _ _ _ hm
  obtain ⟨s0, rfl, b0⟩ := open_limbs (hval 0 23 v0 rfl rfl) h0
  have k1 := h1
  have lt1 : ∀ x ∈ p1, x.block < W.heap.size := by obtain ⟨m, hm⟩ := k1; exact DataW.trod_lt m _ _ _ hm
  obtain ⟨s1, rfl, b1⟩ := open_limbs (hval 1 23 v1 rfl rfl) h1
  clear hA0 hval0 hsz
  refine (walk_CurveRules W hL s0 b0 s1 b1).mono fun e W' ⟨he, bel⟩ => ?_
  subst he
  exact ⟨_, rfl, _, _, _, [], _, [], hW', trodAll_mk1 (shut_bool Tryd.underlying4 _), (trodAll_cons_mk (Below.trod laidOut (by kernel_rfl) (of_decide_eq_true (by kernel_rfl)) k0 bel lt0) (trodAll_cons_mk (Below.trod laidOut (by kernel_rfl) (of_decide_eq_true (by kernel_rfl)) k1 bel lt1) trodAll_mk0)), rfl, bel.frame _, fun h => by cases h⟩

/-- a world for the witness: the settled one, the listed variables holding what their initialisers lay -/
def litCells (d : DataW Unit) : Array Value := match d with
  | .agg l => (l.filterMap fun x => match x with | .lit (.int k n) => some (Value.int k n) | _ => Option.none).toArray
  | _ => #[]
noncomputable def laidWorld (os : Os) : World :=
  { World.holding Tryd.prog os ⟨#[], #[], []⟩ with heap := (((((((World.holding Tryd.prog os ⟨#[], #[], []⟩).heap.modify 5 fun
      | .cells _ t frozen => .cells (litCells Rows.laid_bosun_field_modulus) t frozen
      | o => o).modify 6 fun
      | .cells _ t frozen => .cells (litCells Rows.laid_bosun_field_lessTwo) t frozen
      | o => o).modify 2 fun
      | .cells _ t frozen => .cells (litCells Rows.laid_bosun_scalar_order) t frozen
      | o => o).modify 3 fun
      | .cells _ t frozen => .cells (litCells Rows.laid_bosun_curve_dTwice) t frozen
      | o => o).modify 0 fun
      | .cells _ t frozen => .cells (litCells Rows.laid_bosun_curve_baseX) t frozen
      | o => o).modify 1 fun
      | .cells _ t frozen => .cells (litCells Rows.laid_bosun_curve_baseY) t frozen
      | o => o) }
theorem laid_met (os : Os) : laidMet Tryd.prog Rows.curveRulesRow.laid ((laidWorld os).forCall (fun _ _ => 0) ⟨#[], #[.agg #[.int .u64 0, .int .u64 0, .int .u64 0, .int .u64 0], .agg #[.int .u64 0, .int .u64 0, .int .u64 0, .int .u64 0]], []⟩).memory :=
  laidMet_of_run' 8 (by kernel_rfl) (by kernel_rfl)
theorem reads (os : Os) {H : Type} (enc : TypeId × Value → H) : ∃ places, DataW.whole enc Tryd.prog ((laidWorld os).forCall (fun _ _ => 0) ⟨#[], #[.agg #[.int .u64 0, .int .u64 0, .int .u64 0, .int .u64 0], .agg #[.int .u64 0, .int .u64 0, .int .u64 0, .int .u64 0]], []⟩).memory Tryd.f5.params.toList Rows.curveRulesSpec.vars false (#[.agg #[.int .u64 0, .int .u64 0, .int .u64 0, .int .u64 0], .agg #[.int .u64 0, .int .u64 0, .int .u64 0, .int .u64 0]] : Array Value).toList 8 = some ([.agg (List.replicate 4 (.lit (.int .u64 0))), .agg (List.replicate 4 (.lit (.int .u64 0)))], [], places) :=
  ⟨[], by kernel_rfl⟩

set_option maxRecDepth 100000 in
theorem lifted (os : Os) (started : os.Started) (H : Type) (enc : TypeId × Value → H) (F : Stop.Interp) :
    ReturnsInHanded {} Tryd.checked os 5 .any ((OpenSpec.ofChange Rows.curveRulesSpec).preRow enc Tryd.prog Tryd.f5 Rows.curveRulesRow.domain false Rows.curveRulesRow.laid) (((OpenSpec.ofChange Rows.curveRulesSpec).at F).post enc Tryd.prog Tryd.f5 false true false false) := by
  obtain ⟨places, hx⟩ := reads os enc
  refine returnsInHanded_of_row (C := Tryd.checked) (s := OpenSpec.ofChange Rows.curveRulesSpec) own started (by kernel_rfl) Tryd.func5
    (witness_row_at (enc := enc) (C := Tryd.checked) false (laidWorld os) #[.agg #[.int .u64 0, .int .u64 0, .int .u64 0, .int .u64 0], .agg #[.int .u64 0, .int .u64 0, .int .u64 0, .int .u64 0]] rfl (by kernel_rfl) (by kernel_rfl) (by kernel_rfl)
      (OpenSpec.preRow_of_cond 8 hx (by kernel_rfl) (fun k hk => by cases hk) (by kernel_rfl) (laid_met os))) ?_
  intro W base args ds gs before hval hW _ _ hsz hL _ _
  exact contract H enc W base args ds gs before hval hW hsz hL

theorem said : Rows.CurveRulesSaid :=
  OpenClaim.holds_of_cond 5 Tryd.f5 rfl rfl rfl rfl rfl rfl rfl ⟨rfl, rfl, rfl, rfl, rfl⟩ rfl rfl rfl rfl rfl (by kernel_rfl) Tryd.func5 (by kernel_rfl)
    (of_decide_eq_true (by kernel_rfl)) (by unfold Func.isWrapper; first | (rw [if_pos (by decide +kernel)]; kernel_rfl) | (rw [if_neg (by decide +kernel)]; exact ⟨rfl, rfl⟩))
    (fun os started H enc _ F => by rw [OpenClaim.pre_eq_preRow]; exact lifted os started H enc F)

theorem plain (f : FuncId) (fn : Func) (hf : Tryd.pinned.checked.prog.funcNamed "bosun/bosunlaw07.CurveRules" = some f) (hfn : Tryd.pinned.checked.prog.funcs[f]? = some fn) :
    false = Tryd.pinned.checked.prog.looks [] ∧ ∀ (j : Nat) t, fn.params[j]? = some t → Tryd.pinned.checked.prog.wantsStandIn t = false := by
  obtain rfl : f = 5 := Option.some.inj ((show Tryd.prog.funcNamed "bosun/bosunlaw07.CurveRules" = some 5 by kernel_rfl).symm.trans hf) |>.symm
  obtain rfl : fn = Tryd.f5 := (Option.some.inj (Tryd.func5.symm.trans hfn)).symm
  refine ⟨by kernel_rfl, fun j t ht => ?_⟩
  rw [Tryd.params5] at ht
  have hm : t ∈ [23, 23] := by simpa using Array.mem_of_getElem? ht
  have hall : ∀ t ∈ [23, 23], Tryd.prog.wantsStandIn t = false := by
    intro t ht
    simp only [List.mem_cons, List.not_mem_nil, or_false] at ht
    rcases ht with rfl | rfl <;> kernel_rfl
  exact hall t hm

theorem proved : Rows.CurveRulesCardSaid :=
  Claim7.holds_tied_plain_at .later [] _ _ _ _ said (fun _ h => by cases h) (by kernel_rfl) (fun _ h => by cases h) curveRules_row_tie rfl ⟨rfl, rfl⟩ (by kernel_rfl) rfl plain (by kernel_rfl)
end lawCurveRules
end Go.Proofs.YtbplbdnofobbiaaDoor
