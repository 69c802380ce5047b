/- The law CurveSums: Base so many times, and so many, their sum, and the other sides. -/
import Derived.Test.YtbplbdnofobbiaaDoorGCv3
import Derived.Test.YtbplbdnofobbiaaDoorCards
import Derived.Test.YtbplbdnofobbiaaDoorTie
import Derived.Deep.DeepHandedRow
namespace Go.Proofs.YtbplbdnofobbiaaDoor
namespace Cv
open Fe
open Go.ChangeShapes Go.WideShapes Go.ChangeAt Go.RowKit
set_option linter.unusedVariables false
set_option linter.unusedSimpArgs false

set_option maxRecDepth 100000 in
set_option maxHeartbeats 8000000 in
theorem walk_CurveSums (w : World) (hL : laidMetH Tryd.prog Rows.curveSumsRow.laid w) (a : Nat) (ha : a < 18446744073709551616 ^ 4) (b : Nat) (hb : b < 18446744073709551616 ^ 4) :
    Calls Tryd.prog 3 #[.agg (q4 a), .agg (q4 b)] w fun e w' => e = .returned (.bool true) ∧ Below w.heap.size w w' := by
  have hT : TabC w := tab_sums hL
  clear hL
  have h256 : 18446744073709551616 ^ 4 = 2 ^ 256 := by decide +kernel
  have hu4 := Tryd.underlying23
  have hup := Tryd.underlying27
  have hum := Tryd.underlying31
  have hun := Tryd.underlying29
  have hzL := eZero4
  have hzP := pZero
  have hzM := mZero
  have hzN := nZero
  have h0 := ((on_all w).alloc (.cells (q4 a) 23)).alloc (.cells (q4 b) 23)
  have s0 := ((Str.refl w).alloc (.cells (q4 a) 23)).alloc (.cells (q4 b) 23)
  try simp only [World.size_alloc] at h0
  have H1 := hide h0
  have S1 := hide s0
  clear h0 s0
  have hTab := hide hT
  have k0 := fun X h => clives_any X h
  have k1 := fun X h => points_any a ha X h
  have k2 := fun X h => points_any b hb X h
  have hs := Ed.Tp.times_all (tOf_has Ed.Pt.base) a (by rw [← h256]; exact ha)
  have ht := Ed.Tp.times_all (tOf_has Ed.Pt.base) b (by rw [← h256]; exact hb)
  generalize Ed.Pt.base.mul a = p at *
  generalize Ed.Pt.base.mul b = q at *
  generalize Ed.Tp.times (tOf Ed.Pt.base) a 256 = s at *
  generalize Ed.Tp.times (tOf Ed.Pt.base) b 256 = t at *
  have k3 := fun X h => pneg_pt q X h
  have k4 := fun vv X h h2 => padd_4 p q vv X h h2
  have k5 := fun X => md_any X
  have k6 := fun X => madd_any s t X
  have k7 := fun X => pencode_pt p X
  have k8 := fun X => mencode_any hs X
  have k9 := fun X => pencode_pt (p.sum q) X
  have k10 := fun X => mencode_any (Ed.Tp.add_has hs ht) X
  have k11 := fun X h => pneg_pt p X h
  have k12 := fun X => pencode_pt p.neg X
  have k13 := fun X => mneg_any s X
  have k14 := fun X => mencode_any (Tp_neg_has hs) X
  have k15 := fun X => psame_pt p q X
  have k16 := fun X => msame_any hs ht X
  have k17 := fun X h => padd_0 X h
  have k18 := fun X => none_pt X
  have k19 := fun X => psame_pt Ed.Pt.none Ed.Pt.none X
  rw [decide_eq_true (rfl : Ed.Pt.none = Ed.Pt.none)] at k19
  generalize decide (p = q) = r at *
  have hC4 : Hid (∀ X : World, IsPs (X.alloc (.cells (psC [ptN p, ptN q, ptN q.neg, ptN q]) 27)) (.slice (some ⟨X.heap.size, 0, Option.none⟩) 4 4) [ptN p, ptN q, ptN q.neg, ptN q]) := hide (fun X => IsPs.of (heap_alloc_new X _))
  have hps := hide (fun X => run_pp4 p q q.neg q X)
  have HE : ∀ (l : List UInt8), l.length = 32 → Hid (∀ X, (Op.equalIn 10000 38 (.agg (zb l)) (.agg (zb l))).run Tryd.prog X = .ok true X) := fun l hl => hide (fun X => by
    have := run_eq_bytes (P := Tryd.prog) X 9998 38 5 32 Tryd.underlying38 Tryd.underlying5 (by kernel_rfl) l l hl hl
    rwa [decide_eq_true (rfl : l = l)] at this)
  have HE1 := HE _ (Ed.enc_len p)
  have HE2 := HE _ (Ed.enc_len (p.sum q))
  have HE3 := HE _ (Ed.enc_len p.neg)
  have HgdB : Hid (Tryd.prog.eqGuardType Tryd.prog.depth 38 = false) := hide (by kernel_rfl)
  have HsPp := hide (ptInfo p)
  have HoPp := hide (ptOne p)
  have HzPp := hide (ptZ p)
  have HsPq := hide (ptInfo q)
  have HoPq := hide (ptOne q)
  have HzPq := hide (ptZ q)
  have HsPn := hide (ptInfo q.neg)
  have HoPn := hide (ptOne q.neg)
  have HzPn := hide (ptZ q.neg)
  have HsPx := hide (ptInfo (p.sum q))
  have HoPx := hide (ptOne (p.sum q))
  have HzPx := hide (ptZ (p.sum q))
  have HsPm := hide (ptInfo p.neg)
  have HoPm := hide (ptOne p.neg)
  have HzPm := hide (ptZ p.neg)
  have HsPo := hide (ptInfo Ed.Pt.none)
  have HoPo := hide (ptOne Ed.Pt.none)
  have HzPo := hide (ptZ Ed.Pt.none)
  have HsTp := hide (tpInfo s)
  have HoTp := hide (tpOne s)
  have HzTp := hide (tpZ s)
  have HsTq := hide (tpInfo t)
  have HoTq := hide (tpOne t)
  have HzTq := hide (tpZ t)
  have HsTx := hide (tpInfo (s.add t))
  have HoTx := hide (tpOne (s.add t))
  have HzTx := hide (tpZ (s.add t))
  have HsTn := hide (tpInfo ⟨-s.x, s.y, s.z⟩)
  have HoTn := hide (tpOne ⟨-s.x, s.y, s.z⟩)
  have HzTn := hide (tpZ ⟨-s.x, s.y, s.z⟩)
  have hk0 := hide k0
  have hk1 := hide k1
  have hk2 := hide k2
  have hk3 := hide k3
  have hk4 := hide k4
  have hk5 := hide k5
  have hk6 := hide k6
  have hk7 := hide k7
  have hk8 := hide k8
  have hk9 := hide k9
  have hk10 := hide k10
  have hk11 := hide k11
  have hk12 := hide k12
  have hk13 := hide k13
  have hk14 := hide k14
  have hk15 := hide k15
  have hk16 := hide k16
  have hk17 := hide k17
  have hk18 := hide k18
  have hk19 := hide k19
  clear k0 k1 k2 k3 k4 k5 k6 k7 k8 k9 k10 k11 k12 k13 k14 k15 k16 k17 k18 k19 hs ht ha hb h256 HE
  have HsAb := hide (eInfo4 a)
  have HoAb := hide (eOne a)
  have HzAb := hide (eSize 0 a)
  have HsBb := hide (eInfo4 b)
  have HoBb := hide (eOne b)
  have HzBb := hide (eSize 0 b)
  generalize hvAb : q4 a = Ab at *
  clear hvAb
  generalize hvBb : q4 b = Bb at *
  clear hvBb
  generalize hvZ4 : q4 0 = Z4 at *
  clear hvZ4
  generalize hvZp : pC 0 0 = Zp at *
  clear hvZp
  generalize hvZm : mC 0 0 0 = Zm at *
  clear hvZm
  generalize hvZn : n17 0 = Zn at *
  clear hvZn
  generalize zb (Ed.enc p) = Ep at *
  generalize zb (Ed.enc (p.sum q)) = Ex at *
  generalize zb (Ed.enc p.neg) = En at *
  generalize tpC s = Tp at *
  generalize tpC t = Tq at *
  generalize tpC (s.add t) = Tx at *
  generalize tpC ⟨-s.x, s.y, s.z⟩ = Tn at *
  generalize ptC p = Pp at *
  generalize ptC q = Pq at *
  generalize ptC q.neg = Pn at *
  generalize ptC (p.sum q) = Px at *
  generalize ptC p.neg = Pm at *
  generalize ptC Ed.Pt.none = Po at *
  generalize n17 Ed.dN = Dd at *
  generalize psC [ptN p, ptN q, ptN q.neg, ptN q] = C4 at *
  go_enter Tryd.func3, Tryd.ntmps3
  refine wp_seq_h fun K1 hK1 => ?_
  go_wp2_with fail
  refine hK1.out _ _ ?_
  clear hK1 K1
  generalize (w.alloc (.cells Ab 23)).alloc (.cells Bb 23) = w1 at *
  go_wp2_with fail
  refine (hk0.out _ (hT.below (all_below H1.out.right.right S1.out))).mono ?_
  rintro e w2 ⟨rfl, hB⟩
  have H2 := hide (H1.out.below hB)
  have S2 := hide (S1.out.trans (Str.below hB))
  clear hB H1 S1
  have gA := on_blk_mul H2.out.right
  go_wp2_with (first
    | (refine wpList_load_row rfl _ _ rfl (w.heap.size) rfl _ Ab _ _ gA hu4 rfl HsAb.out ?_))
  clear gA
  refine (hk1.out _ (hT.below (all_below H2.out.right.right S2.out))).mono ?_
  rintro e w3 ⟨rfl, hB⟩
  have H3 := hide (H2.out.below hB)
  have S3 := hide (S2.out.trans (Str.below hB))
  clear hB H2 S2
  have h1 := H3.out.alloc (.cells Zp 27)
  have h2 := h1.alloc (.cells Zm 31)
  simp only [World.size_alloc] at h2
  have gA := on_blk_mul h2.right
  have h3 := st1 h2 (cs := Pp)
  have gB := on_blk_mul h3
  have h4 := st0 h3 (cs := Tp)
  have H4 := hide h4
  have S4 := hide ((((S3.out.alloc (.cells Zp 27)).alloc (.cells Zm 31)).setRow w3.heap.size Pp).setRow (w3.heap.size + 1) Tp)
  clear h1 h2 h3 h4
  have gL := on_blk_mul H4.out.right.right
  go_wp2_with (first
    | (refine wpList_store_row rfl _ _ _ rfl (w3.heap.size) Pp rfl rfl _ _ gA HsPp.out HzPp.out HoPp.out ?_)
    | (refine wpList_store_row rfl _ _ _ rfl (w3.heap.size + 1) Tp rfl rfl _ _ gB HsTp.out HzTp.out HoTp.out ?_)
    | (refine wpList_load_row rfl _ _ rfl (w.heap.size + 1) rfl _ Bb _ _ gL hu4 rfl HsBb.out ?_))
  generalize (((w3.alloc (.cells Zp 27)).alloc (.cells Zm 31)).setRow w3.heap.size Pp).setRow (w3.heap.size + 1) Tp = w4 at *
  generalize w3.heap.size = p5 at *
  clear gA gB H3 S3 gL
  refine (hk2.out _ (hT.below (all_below H4.out.right.right.right.right S4.out))).mono ?_
  rintro e w5 ⟨rfl, hB⟩
  have H5 := hide (H4.out.below hB)
  have S5 := hide (S4.out.trans (Str.below hB))
  clear hB H4 S4
  have h1 := H5.out.alloc (.cells Zp 27)
  have h2 := h1.alloc (.cells Zm 31)
  simp only [World.size_alloc] at h2
  have gA := on_blk_mul h2.right
  have h3 := st1 h2 (cs := Pq)
  have gB := on_blk_mul h3
  have h4 := st0 h3 (cs := Tq)
  have H6 := hide h4
  have S6 := hide ((((S5.out.alloc (.cells Zp 27)).alloc (.cells Zm 31)).setRow w5.heap.size Pq).setRow (w5.heap.size + 1) Tq)
  clear h1 h2 h3 h4
  go_wp2_with (first
    | (refine wpList_store_row rfl _ _ _ rfl (w5.heap.size) Pq rfl rfl _ _ gA HsPq.out HzPq.out HoPq.out ?_)
    | (refine wpList_store_row rfl _ _ _ rfl (w5.heap.size + 1) Tq rfl rfl _ _ gB HsTq.out HzTq.out HoTq.out ?_))
  generalize (((w5.alloc (.cells Zp 27)).alloc (.cells Zm 31)).setRow w5.heap.size Pq).setRow (w5.heap.size + 1) Tq = w6 at *
  generalize w5.heap.size = p7 at *
  clear gA gB H5 S5
  have hT0 := hide (hTab.out.below (all_below H6.out.right.right.right.right.right.right S6.out))
  refine wp_region_tail 8 [isV (.agg Pp), isV (.agg Pq), isV (.agg Pq), isV (.agg Pn), isV (.agg Pq), fun v X => IsPs X v [ptN p, ptN q, ptN q.neg, ptN q], isV (.agg Px), Fresh w6.heap.size (.cells Zp 27 (0, 0))]
    (by simp only [List.take_succ_cons, List.take_zero]; rfl) (by simp only [List.drop_succ_cons, List.drop_zero]; rfl) (by kernel_rfl) (by kernel_rfl) (by kernel_rfl) (by decide) rfl ?keep ?todo ?rest
  case keep => exact ⟨Keep.isV _, Keep.isV _, Keep.isV _, Keep.isV _, Keep.isV _, fun _ _ _ h k => IsPs.below h k, Keep.isV _, Fresh.keep, trivial⟩
  case todo =>
    refine ⟨?_, ?_, ?_, ?_, ?_, ?_, ?_, ?_, trivial⟩
    · intro ev X hT hb hk hf
      have e0 : ev (.tmp 5) = .pointer (some ⟨p5, 0, Option.none⟩) := hk.1
      exact OpOk.load_row _ _ rfl _ e0 _ Pp (0, 0) _ (on_blk_mul (H6.out.below hT).right.right.right) hup rfl HsPp.out ⟨rfl, Stay.refl _⟩
    · intro ev X hT hb hk hf
      have e0 : ev (.tmp 7) = .pointer (some ⟨p7, 0, Option.none⟩) := hk.1
      exact OpOk.load_row _ _ rfl _ e0 _ Pq (0, 0) _ (on_blk_mul (H6.out.below hT).right) hup rfl HsPq.out ⟨rfl, Stay.refl _⟩
    · intro ev X hT hb hk hf
      have e0 : ev (.tmp 7) = .pointer (some ⟨p7, 0, Option.none⟩) := hk.1
      exact OpOk.load_row _ _ rfl _ e0 _ Pq (0, 0) _ (on_blk_mul (H6.out.below hT).right) hup rfl HsPq.out ⟨rfl, Stay.refl _⟩
    · intro ev X hT hb hk hf
      have e0 : ev (.tmp 25) = .agg Pq := hf.1
      refine OpOk.enters (f := 12) (args := #[.agg Pq]) (W' := X) (by simp [execOp, resolve, invoke, e0, hb.1, hb.2.1, go_sem]) ((hk3.out X (hT0.out.below hT)).mono ?_)
      rintro e _ ⟨rfl, hB⟩
      exact ⟨_, rfl, rfl, hB⟩
    · intro ev X hT hb hk hf
      have e0 : ev (.tmp 7) = .pointer (some ⟨p7, 0, Option.none⟩) := hk.1
      exact OpOk.load_row _ _ rfl _ e0 _ Pq (0, 0) _ (on_blk_mul (H6.out.below hT).right) hup rfl HsPq.out ⟨rfl, Stay.refl _⟩
    · intro ev X hT hb hk hf
      have e0 : ev (.tmp 23) = .agg Pp := hf.1
      have e1 : ev (.tmp 24) = .agg Pq := hf.2.1
      have e2 : ev (.tmp 26) = .agg Pn := hf.2.2.1
      have e3 : ev (.tmp 27) = .agg Pq := hf.2.2.2.1
      exact OpOk.run (v := .slice (some ⟨X.heap.size, 0, Option.none⟩) 4 4) (W' := X.alloc (.cells C4 27)) (by simp [execOp, e0, e1, e2, e3, hps.out X]) ⟨hC4.out X, (Below.refl X.heap.size X).alloc (Nat.le_refl _) _⟩
    · intro ev X hT hb hk hf
      have e0 : IsPs X (ev (.tmp 28)) [ptN p, ptN q, ptN q.neg, ptN q] := hf.1
      have e0 : IsPs X (ev (.tmp 28)) [ptN p, ptN q, ptN q.neg, ptN q] := hf.1
      refine OpOk.enters (f := 11) (args := #[ev (.tmp 28)]) (W' := X) (by simp [execOp, resolve, invoke, hb.1, hb.2.1, go_sem]) ((hk4.out _ X e0 (hT0.out.below hT)).mono ?_)
      rintro e _ ⟨rfl, hB⟩
      exact ⟨_, rfl, rfl, hB⟩
    · intro ev X hT hb hk hf
      exact OpOk.run (v := .pointer (some ⟨X.heap.size, 0, Option.none⟩)) (W' := X.alloc (.cells Zp 27)) (by simp [execOp, hzP, go_sem]) ⟨⟨X.heap.size, rfl, hT.size, heap_alloc_new X _⟩, (Below.refl X.heap.size X).alloc (Nat.le_refl _) _⟩
  case rest =>
    intro w7 hX
    rintro _ rfl _ rfl _ rfl _ rfl _ rfl _ - _ rfl _ ⟨g9, rfl, hgg9, hcg9⟩
    have H7 := hide (on_fresh H6.out hX hgg9 hcg9)
    have S7 := hide (S6.out.trans (Str.below hX))
    clear hX H6 S6 hgg9 hcg9
    clear hT0
    go_wp2
    refine Rest.done ?_
    have H8 := hide (st0 H7.out (cs := Px))
    have S8 := hide (S7.out.setRow (g9) Px)
    have gW := on_blk_mul H7.out
    go_wp2_with (first
      | (refine wpList_store_row rfl _ _ _ rfl (g9) Px rfl rfl _ _ gW HsPx.out HzPx.out HoPx.out ?_))
    generalize w7.setRow (g9) Px = w8 at *
    clear gW H7 S7
    have hT0 := hide (hTab.out.below (all_below H8.out.right.right.right.right.right.right.right S8.out))
    refine wp_region_tail 5 [isV (.agg Tp), isV (.agg Tq), isV (.agg Dd), isV (.agg Tx), Fresh w8.heap.size (.cells Zm 31 (0, 0))]
      (by simp only [List.take_succ_cons, List.take_zero]; rfl) (by simp only [List.drop_succ_cons, List.drop_zero]; rfl) (by kernel_rfl) (by kernel_rfl) (by kernel_rfl) (by decide) rfl ?keep ?todo ?rest
    case keep => exact ⟨Keep.isV _, Keep.isV _, Keep.isV _, Keep.isV _, Fresh.keep, trivial⟩
    case todo =>
      refine ⟨?_, ?_, ?_, ?_, ?_, trivial⟩
      · intro ev X hT hb hk hf
        have e0 : ev (.tmp 6) = .pointer (some ⟨p5 + 1, 0, Option.none⟩) := hk.1
        exact OpOk.load_row _ _ rfl _ e0 _ Tp (0, 0) _ (on_blk_mul (H8.out.below hT).right.right.right) hum rfl HsTp.out ⟨rfl, Stay.refl _⟩
      · intro ev X hT hb hk hf
        have e0 : ev (.tmp 8) = .pointer (some ⟨p7 + 1, 0, Option.none⟩) := hk.1
        exact OpOk.load_row _ _ rfl _ e0 _ Tq (0, 0) _ (on_blk_mul (H8.out.below hT).right) hum rfl HsTq.out ⟨rfl, Stay.refl _⟩
      · intro ev X hT hb hk hf
        refine OpOk.enters (f := 14) (args := #[]) (W' := X) (by simp [execOp, resolve, invoke, hb.1, hb.2.1, go_sem]) ((hk5.out X).mono ?_)
        rintro e _ ⟨rfl, hB⟩
        exact ⟨_, rfl, rfl, hB⟩
      · intro ev X hT hb hk hf
        have e0 : ev (.tmp 30) = .agg Tp := hf.1
        have e1 : ev (.tmp 31) = .agg Tq := hf.2.1
        have e2 : ev (.tmp 32) = .agg Dd := hf.2.2.1
        refine OpOk.enters (f := 13) (args := #[.agg Tp, .agg Tq, .agg Dd]) (W' := X) (by simp [execOp, resolve, invoke, e0, e1, e2, hb.1, hb.2.1, go_sem]) ((hk6.out X).mono ?_)
        rintro e _ ⟨rfl, hB⟩
        exact ⟨_, rfl, rfl, hB⟩
      · intro ev X hT hb hk hf
        exact OpOk.run (v := .pointer (some ⟨X.heap.size, 0, Option.none⟩)) (W' := X.alloc (.cells Zm 31)) (by simp [execOp, hzM, go_sem]) ⟨⟨X.heap.size, rfl, hT.size, heap_alloc_new X _⟩, (Below.refl X.heap.size X).alloc (Nat.le_refl _) _⟩
    case rest =>
      intro w9 hX
      rintro _ rfl _ rfl _ rfl _ rfl _ ⟨g10, rfl, hgg10, hcg10⟩
      have H9 := hide (on_fresh H8.out hX hgg10 hcg10)
      have S9 := hide (S8.out.trans (Str.below hX))
      clear hX H8 S8 hgg10 hcg10
      clear hT0
      go_wp2
      refine Rest.done ?_
      have H10 := hide (st0 H9.out (cs := Tx))
      have S10 := hide (S9.out.setRow (g10) Tx)
      have gW := on_blk_mul H9.out
      go_wp2_with (first
        | (refine wpList_store_row rfl _ _ _ rfl (g10) Tx rfl rfl _ _ gW HsTx.out HzTx.out HoTx.out ?_))
      generalize w9.setRow (g10) Tx = w10 at *
      clear gW H9 S9
      have hT0 := hide (hTab.out.below (all_below H10.out.right.right.right.right.right.right.right.right S10.out))
      refine wp_region_tail 35 [isV (.agg Pp), isV (.agg Ep), isV (.agg Tp), isV (.agg Ep), isV (.bool true), isV (.bool true), isV (.agg Px), isV (.agg Ex), isV (.agg Tx), isV (.agg Ex), isV (.bool true), isV (.bool true), isV (.bool true), isV (.agg Pp), isV (.agg Pm), isV (.agg En), isV (.agg Tp), isV (.agg Tn), isV (.agg En), isV (.bool true), isV (.bool true), isV (.bool true), isV (.agg Pp), isV (.agg Pq), isV (.bool r), isV (.agg Tp), isV (.agg Tq), isV (.bool r), isV (.bool true), isV (.bool true), isV (.bool true), isV (.agg Po), isV (.agg Po), isV (.bool true), isV (.bool true)]
        (by simp only [List.take_succ_cons, List.take_zero]; rfl) (by simp only [List.drop_succ_cons, List.drop_zero]; rfl) (by kernel_rfl) (by kernel_rfl) (by kernel_rfl) (by decide) rfl ?keep ?todo ?rest
      case keep => exact ⟨Keep.isV _, Keep.isV _, Keep.isV _, Keep.isV _, Keep.isV _, Keep.isV _, Keep.isV _, Keep.isV _, Keep.isV _, Keep.isV _, Keep.isV _, Keep.isV _, Keep.isV _, Keep.isV _, Keep.isV _, Keep.isV _, Keep.isV _, Keep.isV _, Keep.isV _, Keep.isV _, Keep.isV _, Keep.isV _, Keep.isV _, Keep.isV _, Keep.isV _, Keep.isV _, Keep.isV _, Keep.isV _, Keep.isV _, Keep.isV _, Keep.isV _, Keep.isV _, Keep.isV _, Keep.isV _, Keep.isV _, trivial⟩
      case todo =>
        refine ⟨?_, ?_, ?_, ?_, ?_, ?_, ?_, ?_, ?_, ?_, ?_, ?_, ?_, ?_, ?_, ?_, ?_, ?_, ?_, ?_, ?_, ?_, ?_, ?_, ?_, ?_, ?_, ?_, ?_, ?_, ?_, ?_, ?_, ?_, ?_, trivial⟩
        · intro ev X hT hb hk hf
          have e0 : ev (.tmp 5) = .pointer (some ⟨p5, 0, Option.none⟩) := hk.1
          exact OpOk.load_row _ _ rfl _ e0 _ Pp (0, 0) _ (on_blk_mul (H10.out.below hT).right.right.right.right.right) hup rfl HsPp.out ⟨rfl, Stay.refl _⟩
        · intro ev X hT hb hk hf
          have e0 : ev (.tmp 34) = .agg Pp := hf.1
          refine OpOk.enters (f := 15) (args := #[.agg Pp]) (W' := X) (by simp [execOp, resolve, invoke, e0, hb.1, hb.2.1, go_sem]) ((hk7.out X).mono ?_)
          rintro e _ ⟨rfl, hB⟩
          exact ⟨_, rfl, rfl, hB⟩
        · intro ev X hT hb hk hf
          have e0 : ev (.tmp 6) = .pointer (some ⟨p5 + 1, 0, Option.none⟩) := hk.1
          exact OpOk.load_row _ _ rfl _ e0 _ Tp (0, 0) _ (on_blk_mul (H10.out.below hT).right.right.right.right) hum rfl HsTp.out ⟨rfl, Stay.refl _⟩
        · intro ev X hT hb hk hf
          have e0 : ev (.tmp 36) = .agg Tp := hf.1
          refine OpOk.enters (f := 16) (args := #[.agg Tp]) (W' := X) (by simp [execOp, resolve, invoke, e0, hb.1, hb.2.1, go_sem]) ((hk8.out X).mono ?_)
          rintro e _ ⟨rfl, hB⟩
          exact ⟨_, rfl, rfl, hB⟩
        · intro ev X hT hb hk hf
          have e0 : ev (.tmp 35) = .agg Ep := hf.1
          have e1 : ev (.tmp 37) = .agg Ep := hf.2.1
          exact OpOk.run (v := .bool true) (W' := X) (by
            unfold execOp
            simp only [e0, e1, Sem.run_bind, run_eqGuard_agg X _ _ _ _ _ _ HgdB.out, run_eql_struct, HE1.out X, Result.andThen_ok]
            rfl) ⟨rfl, Stay.refl _⟩
        · intro ev X hT hb hk hf
          have e0 : ev (.tmp 38) = .bool true := hf.1
          exact OpOk.move rfl e0 ⟨rfl, Stay.refl _⟩
        · intro ev X hT hb hk hf
          refine ⟨true, hf.1, fun _ => ?_, fun h => (h rfl).elim⟩
          have e0 : ev (.tmp 9) = .pointer (some ⟨g9, 0, Option.none⟩) := hk.1
          exact OpOk.load_row _ _ rfl _ e0 _ Px (0, 0) _ (on_blk_mul (H10.out.below hT).right) hup rfl HsPx.out ⟨rfl, Stay.refl _⟩
        · intro ev X hT hb hk hf
          refine ⟨true, hf.2.1, fun _ => ?_, fun h => (h rfl).elim⟩
          have e0 : ev (.tmp 40) = .agg Px := hf.1
          refine OpOk.enters (f := 15) (args := #[.agg Px]) (W' := X) (by simp [execOp, resolve, invoke, e0, hb.1, hb.2.1, go_sem]) ((hk9.out X).mono ?_)
          rintro e _ ⟨rfl, hB⟩
          exact ⟨_, rfl, rfl, hB⟩
        · intro ev X hT hb hk hf
          refine ⟨true, hf.1, fun _ => ?_, fun h => (h rfl).elim⟩
          have e0 : ev (.tmp 10) = .pointer (some ⟨g10, 0, Option.none⟩) := hk.1
          exact OpOk.load_row _ _ rfl _ e0 _ Tx (0, 0) _ (on_blk_mul (H10.out.below hT)) hum rfl HsTx.out ⟨rfl, Stay.refl _⟩
        · intro ev X hT hb hk hf
          refine ⟨true, hf.2.2.1, fun _ => ?_, fun h => (h rfl).elim⟩
          have e0 : ev (.tmp 42) = .agg Tx := hf.1
          refine OpOk.enters (f := 16) (args := #[.agg Tx]) (W' := X) (by simp [execOp, resolve, invoke, e0, hb.1, hb.2.1, go_sem]) ((hk10.out X).mono ?_)
          rintro e _ ⟨rfl, hB⟩
          exact ⟨_, rfl, rfl, hB⟩
        · intro ev X hT hb hk hf
          refine ⟨true, hf.2.2.1, fun _ => ?_, fun h => (h rfl).elim⟩
          have e0 : ev (.tmp 41) = .agg Ex := hf.1
          have e1 : ev (.tmp 43) = .agg Ex := hf.2.1
          exact OpOk.run (v := .bool true) (W' := X) (by
            unfold execOp
            simp only [e0, e1, Sem.run_bind, run_eqGuard_agg X _ _ _ _ _ _ HgdB.out, run_eql_struct, HE2.out X, Result.andThen_ok]
            rfl) ⟨rfl, Stay.refl _⟩
        · intro ev X hT hb hk hf
          have e0 : ev (.tmp 39) = .bool true := hf.1
          have e1 : ev (.tmp 44) = .bool true := hf.2.1
          exact OpOk.run (v := .bool true) (W' := X) (by simp [execOp, e0, e1, hb, hb.1, hb.2.1, hb.2.2, go_sem]) ⟨rfl, Stay.refl _⟩
        · intro ev X hT hb hk hf
          have e0 : ev (.tmp 45) = .bool true := hf.1
          exact OpOk.move rfl e0 ⟨rfl, Stay.refl _⟩
        · intro ev X hT hb hk hf
          refine ⟨true, hf.1, fun _ => ?_, fun h => (h rfl).elim⟩
          have e0 : ev (.tmp 5) = .pointer (some ⟨p5, 0, Option.none⟩) := hk.1
          exact OpOk.load_row _ _ rfl _ e0 _ Pp (0, 0) _ (on_blk_mul (H10.out.below hT).right.right.right.right.right) hup rfl HsPp.out ⟨rfl, Stay.refl _⟩
        · intro ev X hT hb hk hf
          refine ⟨true, hf.2.1, fun _ => ?_, fun h => (h rfl).elim⟩
          have e0 : ev (.tmp 47) = .agg Pp := hf.1
          refine OpOk.enters (f := 12) (args := #[.agg Pp]) (W' := X) (by simp [execOp, resolve, invoke, e0, hb.1, hb.2.1, go_sem]) ((hk11.out X (hT0.out.below hT)).mono ?_)
          rintro e _ ⟨rfl, hB⟩
          exact ⟨_, rfl, rfl, hB⟩
        · intro ev X hT hb hk hf
          refine ⟨true, hf.2.2.1, fun _ => ?_, fun h => (h rfl).elim⟩
          have e0 : ev (.tmp 48) = .agg Pm := hf.1
          refine OpOk.enters (f := 15) (args := #[.agg Pm]) (W' := X) (by simp [execOp, resolve, invoke, e0, hb.1, hb.2.1, go_sem]) ((hk12.out X).mono ?_)
          rintro e _ ⟨rfl, hB⟩
          exact ⟨_, rfl, rfl, hB⟩
        · intro ev X hT hb hk hf
          refine ⟨true, hf.1, fun _ => ?_, fun h => (h rfl).elim⟩
          have e0 : ev (.tmp 6) = .pointer (some ⟨p5 + 1, 0, Option.none⟩) := hk.1
          exact OpOk.load_row _ _ rfl _ e0 _ Tp (0, 0) _ (on_blk_mul (H10.out.below hT).right.right.right.right) hum rfl HsTp.out ⟨rfl, Stay.refl _⟩
        · intro ev X hT hb hk hf
          refine ⟨true, hf.2.2.1, fun _ => ?_, fun h => (h rfl).elim⟩
          have e0 : ev (.tmp 50) = .agg Tp := hf.1
          refine OpOk.enters (f := 17) (args := #[.agg Tp]) (W' := X) (by simp [execOp, resolve, invoke, e0, hb.1, hb.2.1, go_sem]) ((hk13.out X).mono ?_)
          rintro e _ ⟨rfl, hB⟩
          exact ⟨_, rfl, rfl, hB⟩
        · intro ev X hT hb hk hf
          refine ⟨true, hf.2.2.1, fun _ => ?_, fun h => (h rfl).elim⟩
          have e0 : ev (.tmp 51) = .agg Tn := hf.1
          refine OpOk.enters (f := 16) (args := #[.agg Tn]) (W' := X) (by simp [execOp, resolve, invoke, e0, hb.1, hb.2.1, go_sem]) ((hk14.out X).mono ?_)
          rintro e _ ⟨rfl, hB⟩
          exact ⟨_, rfl, rfl, hB⟩
        · intro ev X hT hb hk hf
          refine ⟨true, hf.2.2.1, fun _ => ?_, fun h => (h rfl).elim⟩
          have e0 : ev (.tmp 49) = .agg En := hf.1
          have e1 : ev (.tmp 52) = .agg En := hf.2.1
          exact OpOk.run (v := .bool true) (W' := X) (by
            unfold execOp
            simp only [e0, e1, Sem.run_bind, run_eqGuard_agg X _ _ _ _ _ _ HgdB.out, run_eql_struct, HE3.out X, Result.andThen_ok]
            rfl) ⟨rfl, Stay.refl _⟩
        · intro ev X hT hb hk hf
          have e0 : ev (.tmp 46) = .bool true := hf.1
          have e1 : ev (.tmp 53) = .bool true := hf.2.1
          exact OpOk.run (v := .bool true) (W' := X) (by simp [execOp, e0, e1, hb, hb.1, hb.2.1, hb.2.2, go_sem]) ⟨rfl, Stay.refl _⟩
        · intro ev X hT hb hk hf
          have e0 : ev (.tmp 54) = .bool true := hf.1
          exact OpOk.move rfl e0 ⟨rfl, Stay.refl _⟩
        · intro ev X hT hb hk hf
          refine ⟨true, hf.1, fun _ => ?_, fun h => (h rfl).elim⟩
          have e0 : ev (.tmp 5) = .pointer (some ⟨p5, 0, Option.none⟩) := hk.1
          exact OpOk.load_row _ _ rfl _ e0 _ Pp (0, 0) _ (on_blk_mul (H10.out.below hT).right.right.right.right.right) hup rfl HsPp.out ⟨rfl, Stay.refl _⟩
        · intro ev X hT hb hk hf
          refine ⟨true, hf.1, fun _ => ?_, fun h => (h rfl).elim⟩
          have e0 : ev (.tmp 7) = .pointer (some ⟨p7, 0, Option.none⟩) := hk.1
          exact OpOk.load_row _ _ rfl _ e0 _ Pq (0, 0) _ (on_blk_mul (H10.out.below hT).right.right.right) hup rfl HsPq.out ⟨rfl, Stay.refl _⟩
        · intro ev X hT hb hk hf
          refine ⟨true, hf.2.2.1, fun _ => ?_, fun h => (h rfl).elim⟩
          have e0 : ev (.tmp 56) = .agg Pp := hf.1
          have e1 : ev (.tmp 57) = .agg Pq := hf.2.1
          refine OpOk.enters (f := 18) (args := #[.agg Pp, .agg Pq]) (W' := X) (by simp [execOp, resolve, invoke, e0, e1, hb.1, hb.2.1, go_sem]) ((hk15.out X).mono ?_)
          rintro e _ ⟨rfl, hB⟩
          exact ⟨_, rfl, rfl, hB⟩
        · intro ev X hT hb hk hf
          refine ⟨true, hf.1, fun _ => ?_, fun h => (h rfl).elim⟩
          have e0 : ev (.tmp 6) = .pointer (some ⟨p5 + 1, 0, Option.none⟩) := hk.1
          exact OpOk.load_row _ _ rfl _ e0 _ Tp (0, 0) _ (on_blk_mul (H10.out.below hT).right.right.right.right) hum rfl HsTp.out ⟨rfl, Stay.refl _⟩
        · intro ev X hT hb hk hf
          refine ⟨true, hf.1, fun _ => ?_, fun h => (h rfl).elim⟩
          have e0 : ev (.tmp 8) = .pointer (some ⟨p7 + 1, 0, Option.none⟩) := hk.1
          exact OpOk.load_row _ _ rfl _ e0 _ Tq (0, 0) _ (on_blk_mul (H10.out.below hT).right.right) hum rfl HsTq.out ⟨rfl, Stay.refl _⟩
        · intro ev X hT hb hk hf
          refine ⟨true, hf.2.2.2.1, fun _ => ?_, fun h => (h rfl).elim⟩
          have e0 : ev (.tmp 59) = .agg Tp := hf.1
          have e1 : ev (.tmp 60) = .agg Tq := hf.2.1
          refine OpOk.enters (f := 19) (args := #[.agg Tp, .agg Tq]) (W' := X) (by simp [execOp, resolve, invoke, e0, e1, hb.1, hb.2.1, go_sem]) ((hk16.out X).mono ?_)
          rintro e _ ⟨rfl, hB⟩
          exact ⟨_, rfl, rfl, hB⟩
        · intro ev X hT hb hk hf
          refine ⟨true, hf.2.2.1, fun _ => ?_, fun h => (h rfl).elim⟩
          have e0 : ev (.tmp 58) = .bool r := hf.1
          have e1 : ev (.tmp 61) = .bool r := hf.2.1
          exact OpOk.run (v := .bool true) (W' := X) (by simp [execOp, e0, e1, go_sem]) ⟨rfl, Stay.refl _⟩
        · intro ev X hT hb hk hf
          have e0 : ev (.tmp 55) = .bool true := hf.1
          have e1 : ev (.tmp 62) = .bool true := hf.2.1
          exact OpOk.run (v := .bool true) (W' := X) (by simp [execOp, e0, e1, hb, hb.1, hb.2.1, hb.2.2, go_sem]) ⟨rfl, Stay.refl _⟩
        · intro ev X hT hb hk hf
          have e0 : ev (.tmp 63) = .bool true := hf.1
          exact OpOk.move rfl e0 ⟨rfl, Stay.refl _⟩
        · intro ev X hT hb hk hf
          refine ⟨true, hf.1, fun _ => ?_, fun h => (h rfl).elim⟩
          refine OpOk.enters (f := 11) (args := #[.slice Option.none 0 0]) (W' := X) (by simp [execOp, resolve, invoke, hb.1, hb.2.1, go_sem]) ((hk17.out X (hT0.out.below hT)).mono ?_)
          rintro e _ ⟨rfl, hB⟩
          exact ⟨_, rfl, rfl, hB⟩
        · intro ev X hT hb hk hf
          refine ⟨true, hf.2.1, fun _ => ?_, fun h => (h rfl).elim⟩
          refine OpOk.enters (f := 20) (args := #[]) (W' := X) (by simp [execOp, resolve, invoke, hb.1, hb.2.1, go_sem]) ((hk18.out X).mono ?_)
          rintro e _ ⟨rfl, hB⟩
          exact ⟨_, rfl, rfl, hB⟩
        · intro ev X hT hb hk hf
          refine ⟨true, hf.2.2.2.1, fun _ => ?_, fun h => (h rfl).elim⟩
          have e0 : ev (.tmp 65) = .agg Po := hf.1
          have e1 : ev (.tmp 66) = .agg Po := hf.2.1
          refine OpOk.enters (f := 18) (args := #[.agg Po, .agg Po]) (W' := X) (by simp [execOp, resolve, invoke, e0, e1, hb.1, hb.2.1, go_sem]) ((hk19.out X).mono ?_)
          rintro e _ ⟨rfl, hB⟩
          exact ⟨_, rfl, rfl, hB⟩
        · intro ev X hT hb hk hf
          have e0 : ev (.tmp 64) = .bool true := hf.1
          have e1 : ev (.tmp 67) = .bool true := hf.2.1
          exact OpOk.run (v := .bool true) (W' := X) (by simp [execOp, e0, e1, hb, hb.1, hb.2.1, hb.2.2, go_sem]) ⟨rfl, Stay.refl _⟩
      case rest =>
        intro w11 hX
        rintro _ rfl _ rfl _ rfl _ rfl _ rfl _ rfl _ rfl _ rfl _ rfl _ rfl _ rfl _ rfl _ rfl _ rfl _ rfl _ rfl _ rfl _ rfl _ rfl _ rfl _ rfl _ rfl _ rfl _ rfl _ rfl _ rfl _ rfl _ rfl _ rfl _ rfl _ rfl _ rfl _ rfl _ rfl _ rfl
        have H11 := hide (H10.out.below hX)
        have S11 := hide (S10.out.trans (Str.below hX))
        clear hX H10 S10
        clear hT0
        go_wp2
        refine Rest.done ?_
        have HB := hide (all_below H11.out.right.right.right.right.right.right.right.right S11.out)
        go_wp2_with fail
        go_ret
        exact ⟨rfl, HB.out⟩
end Cv
open Go.ChangeShapes Go.WideShapes Go.ChangeAt Go.RowKit
theorem walk_CurveSums (w : World) (hL : laidMetH Tryd.prog Rows.curveSumsRow.laid w) (a : Nat) (ha : a < 18446744073709551616 ^ 4) (b : Nat) (hb : b < 18446744073709551616 ^ 4) :
    Calls Tryd.prog 3 #[.agg (q4 a), .agg (q4 b)] w fun e w' => e = .returned (.bool true) ∧ Below w.heap.size w w' := Cv.walk_CurveSums w hL a ha b hb
namespace lawCurveSums
theorem own : ownKnob Tryd.prog.godebug = Option.none := by kernel_rfl
theorem laidOut : laidOutB Tryd.prog = true := by kernel_rfl

set_option maxRecDepth 100000 in
theorem contract (H : Type) (enc : TypeId × Value → H) (W : World) (base : Nat) (args : Array Value) (ds gs : List (DataW H)) (before : List MemPlace)
    (hval0 : ∀ (j : Nat) t v, Tryd.f3.params[j]? = some t → args[j]? = some v → Value.okWide Tryd.prog W .any base t v)
    (hW : DataW.Whole enc Tryd.prog Tryd.f3.params.toList Rows.curveSumsSpec.vars false W args.toList ds gs before) (hsz : (DataW.weightsEach Tryd.prog (Tryd.f3.params.toList ++ (OpenSpec.ofChange Rows.curveSumsSpec).bare.plain.varTypes Tryd.prog) (ds ++ gs)).all (· ≤ reachBytes) = true) (hL : laidMetH Tryd.prog Rows.curveSumsRow.laid W) :
    Calls Tryd.prog 3 args W fun e W' => ∃ v, e = .returned v ∧ Rows.curveSumsSpec.post enc Tryd.prog Tryd.f3 false true false false W args v W' := by
  have hval : ∀ (j : Nat) t v, Tryd.f3.params[j]? = some t → args[j]? = some v → Value.okWide Tryd.prog W .any base t v := hval0
  have hW' := hW
  obtain ⟨p, q, hA0, hV, rfl, hfz, hnd⟩ := hW
  have hA : DataW.TrodAll enc Tryd.prog W 0 (fun _ => true) true Tryd.f3.params.toList args.toList ds p := hA0
  rw [Tryd.params3] at hA hval
  obtain ⟨v0, vs0, d0, ds0, p0, q0, hargs, rfl, rfl, h0, r0⟩ := trodAll_cons hA
  obtain ⟨v1, vs1, d1, ds1, p1, q1, rfl, rfl, rfl, h1, r1⟩ := trodAll_cons r0
  obtain ⟨rfl, rfl, rfl⟩ := trodAll_nil r1
  obtain rfl : args = #[v0, v1] := by cases args; simp_all
  obtain ⟨rfl, rfl⟩ := trodVars_none hV
  have k0 := h0
  have lt0 : ∀ x ∈ p0, x.block < W.heap.size := by obtain ⟨m, hm⟩ := k0; exact DataW.trod_lt m _ _ _ hm
  obtain ⟨s0, rfl, b0⟩ := open_limbs (hval 0 23 v0 rfl rfl) h0
  have k1 := h1
  have lt1 : ∀ x ∈ p1, x.block < W.heap.size := by obtain ⟨m, hm⟩ := k1; exact DataW.trod_lt m _ _ _ hm
  obtain ⟨s1, rfl, b1⟩ := open_limbs (hval 1 23 v1 rfl rfl) h1
  clear hA0 hval0 hsz
  refine (walk_CurveSums W hL s0 b0 s1 b1).mono fun e W' ⟨he, bel⟩ => ?_
  subst he
  exact ⟨_, rfl, _, _, _, [], _, [], hW', trodAll_mk1 (shut_bool Tryd.underlying4 _), (trodAll_cons_mk (Below.trod laidOut (by kernel_rfl) (of_decide_eq_true (by kernel_rfl)) k0 bel lt0) (trodAll_cons_mk (Below.trod laidOut (by kernel_rfl) (of_decide_eq_true (by kernel_rfl)) k1 bel lt1) trodAll_mk0)), rfl, bel.frame _, fun h => by cases h⟩

/-- a world for the witness: the settled one, the listed variables holding what their initialisers lay -/
def litCells (d : DataW Unit) : Array Value := match d with
  | .agg l => (l.filterMap fun x => match x with | .lit (.int k n) => some (Value.int k n) | _ => Option.none).toArray
  | _ => #[]
noncomputable def laidWorld (os : Os) : World :=
  { World.holding Tryd.prog os ⟨#[], #[], []⟩ with heap := ((((((World.holding Tryd.prog os ⟨#[], #[], []⟩).heap.modify 5 fun
      | .cells _ t frozen => .cells (litCells Rows.laid_bosun_field_modulus) t frozen
      | o => o).modify 6 fun
      | .cells _ t frozen => .cells (litCells Rows.laid_bosun_field_lessTwo) t frozen
      | o => o).modify 3 fun
      | .cells _ t frozen => .cells (litCells Rows.laid_bosun_curve_dTwice) t frozen
      | o => o).modify 0 fun
      | .cells _ t frozen => .cells (litCells Rows.laid_bosun_curve_baseX) t frozen
      | o => o).modify 1 fun
      | .cells _ t frozen => .cells (litCells Rows.laid_bosun_curve_baseY) t frozen
      | o => o) }
theorem laid_met (os : Os) : laidMet Tryd.prog Rows.curveSumsRow.laid ((laidWorld os).forCall (fun _ _ => 0) ⟨#[], #[.agg #[.int .u64 0, .int .u64 0, .int .u64 0, .int .u64 0], .agg #[.int .u64 0, .int .u64 0, .int .u64 0, .int .u64 0]], []⟩).memory :=
  laidMet_of_run' 8 (by kernel_rfl) (by kernel_rfl)
theorem reads (os : Os) {H : Type} (enc : TypeId × Value → H) : ∃ places, DataW.whole enc Tryd.prog ((laidWorld os).forCall (fun _ _ => 0) ⟨#[], #[.agg #[.int .u64 0, .int .u64 0, .int .u64 0, .int .u64 0], .agg #[.int .u64 0, .int .u64 0, .int .u64 0, .int .u64 0]], []⟩).memory Tryd.f3.params.toList Rows.curveSumsSpec.vars false (#[.agg #[.int .u64 0, .int .u64 0, .int .u64 0, .int .u64 0], .agg #[.int .u64 0, .int .u64 0, .int .u64 0, .int .u64 0]] : Array Value).toList 8 = some ([.agg (List.replicate 4 (.lit (.int .u64 0))), .agg (List.replicate 4 (.lit (.int .u64 0)))], [], places) :=
  ⟨[], by kernel_rfl⟩

set_option maxRecDepth 100000 in
theorem lifted (os : Os) (started : os.Started) (H : Type) (enc : TypeId × Value → H) (F : Stop.Interp) :
    ReturnsInHanded {} Tryd.checked os 3 .any ((OpenSpec.ofChange Rows.curveSumsSpec).preRow enc Tryd.prog Tryd.f3 Rows.curveSumsRow.domain false Rows.curveSumsRow.laid) (((OpenSpec.ofChange Rows.curveSumsSpec).at F).post enc Tryd.prog Tryd.f3 false true false false) := by
  obtain ⟨places, hx⟩ := reads os enc
  refine returnsInHanded_of_row (C := Tryd.checked) (s := OpenSpec.ofChange Rows.curveSumsSpec) own started (by kernel_rfl) Tryd.func3
    (witness_row_at (enc := enc) (C := Tryd.checked) false (laidWorld os) #[.agg #[.int .u64 0, .int .u64 0, .int .u64 0, .int .u64 0], .agg #[.int .u64 0, .int .u64 0, .int .u64 0, .int .u64 0]] rfl (by kernel_rfl) (by kernel_rfl) (by kernel_rfl)
      (OpenSpec.preRow_of_cond 8 hx (by kernel_rfl) (fun k hk => by cases hk) (by kernel_rfl) (laid_met os))) ?_
  intro W base args ds gs before hval hW _ _ hsz hL _ _
  exact contract H enc W base args ds gs before hval hW hsz hL

theorem said : Rows.CurveSumsSaid :=
  OpenClaim.holds_of_cond 3 Tryd.f3 rfl rfl rfl rfl rfl rfl rfl ⟨rfl, rfl, rfl, rfl, rfl⟩ rfl rfl rfl rfl rfl (by kernel_rfl) Tryd.func3 (by kernel_rfl)
    (of_decide_eq_true (by kernel_rfl)) (by unfold Func.isWrapper; first | (rw [if_pos (by decide +kernel)]; kernel_rfl) | (rw [if_neg (by decide +kernel)]; exact ⟨rfl, rfl⟩))
    (fun os started H enc _ F => by rw [OpenClaim.pre_eq_preRow]; exact lifted os started H enc F)

theorem plain (f : FuncId) (fn : Func) (hf : Tryd.pinned.checked.prog.funcNamed "bosun/bosunlaw07.CurveSums" = some f) (hfn : Tryd.pinned.checked.prog.funcs[f]? = some fn) :
    false = Tryd.pinned.checked.prog.looks [] ∧ ∀ (j : Nat) t, fn.params[j]? = some t → Tryd.pinned.checked.prog.wantsStandIn t = false := by
  obtain rfl : f = 3 := Option.some.inj ((show Tryd.prog.funcNamed "bosun/bosunlaw07.CurveSums" = some 3 by kernel_rfl).symm.trans hf) |>.symm
  obtain rfl : fn = Tryd.f3 := (Option.some.inj (Tryd.func3.symm.trans hfn)).symm
  refine ⟨by kernel_rfl, fun j t ht => ?_⟩
  rw [Tryd.params3] at ht
  have hm : t ∈ [23, 23] := by simpa using Array.mem_of_getElem? ht
  have hall : ∀ t ∈ [23, 23], Tryd.prog.wantsStandIn t = false := by
    intro t ht
    simp only [List.mem_cons, List.not_mem_nil, or_false] at ht
    rcases ht with rfl | rfl <;> kernel_rfl
  exact hall t hm

theorem proved : Rows.CurveSumsCardSaid :=
  Claim7.holds_tied_plain_at .later [] _ _ _ _ said (fun _ h => by cases h) (by kernel_rfl) (fun _ h => by cases h) curveSums_row_tie rfl ⟨rfl, rfl⟩ (by kernel_rfl) rfl plain (by kernel_rfl)
end lawCurveSums
end Go.Proofs.YtbplbdnofobbiaaDoor
