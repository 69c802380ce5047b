/- The law CurveBytes: which bytes are points', and the bytes of points, also of ones outside the group; so many times. -/
import Derived.Test.YtbplbdnofobbiaaDoorGCv3
import Derived.Test.YtbplbdnofobbiaaDoorCards
import Derived.Test.YtbplbdnofobbiaaDoorTie
import Derived.Deep.DeepHandedRow
namespace Go.Proofs.YtbplbdnofobbiaaDoor
namespace Cv
open Fe
open Go.ChangeShapes Go.WideShapes Go.ChangeAt Go.RowKit
set_option linter.unusedVariables false
set_option linter.unusedSimpArgs false

theorem _root_.Go.Proofs.YtbplbdnofobbiaaDoor.Fe.leN_lt32 (l : List UInt8) (hl : l.length = 32) : leN l < 256 ^ 32 := by
  have := leN_lt l
  rwa [hl] at this
theorem decV_none (n : Nat) (h : Ed.decPt (bl n) = Option.none) : decV n = .tuple #[.agg (pC 0 0), .int .i64 7] := by unfold decV; rw [h]
theorem decV_some (n : Nat) (p : Ed.Pt) (h : Ed.decPt (bl n) = some p) : decV n = .tuple #[.agg (ptC p), .int .i64 0] := by unfold decV; rw [h]
theorem decW_none (n : Nat) (h : Ed.decPt (bl n) = Option.none) : decW n = .tuple #[.agg (mC 0 0 0), .bool false] := by unfold decW; rw [h]
theorem decW_some (n : Nat) (p : Ed.Pt) (h : Ed.decPt (bl n) = some p) : decW n = .tuple #[.agg (tpC (tOf p)), .bool true] := by unfold decW; rw [h, tOf_cells]
set_option maxRecDepth 100000 in
set_option maxHeartbeats 8000000 in
theorem cb_nat (w : World) (hT : TabC w) (hD : TabD w) (m : Nat) (hm : m < 256 ^ 32) (n : Nat) (hn : n < 18446744073709551616 ^ 4) :
    Calls Tryd.prog 4 #[.agg (zB m), .agg (q4 n)] w fun e w' => e = .returned (.bool true) ∧ Below w.heap.size w w' := by
  have h256 : 18446744073709551616 ^ 4 = 2 ^ 256 := by decide +kernel
  have hub := Tryd.underlying38
  have hu4 := Tryd.underlying23
  have hup := Tryd.underlying27
  have hum := Tryd.underlying31
  have hun := Tryd.underlying29
  have hzB := zBZero
  have hzL := eZero4
  have hzP := pZero
  have hzM := mZero
  have hzN := nZero
  have h0 := ((on_all w).alloc (.cells (zB m) 38)).alloc (.cells (q4 n) 23)
  have s0 := ((Str.refl w).alloc (.cells (zB m) 38)).alloc (.cells (q4 n) 23)
  try simp only [World.size_alloc] at h0
  have H1 := hide h0
  have S1 := hide s0
  clear h0 s0
  have hTab := hide hT
  have k0 := fun X h => clives_any X h
  have k1 := fun X h h2 => pdecode_any m hm X h h2
  have k2 := fun X => mdecode_any m hm X
  have k5 := fun X => md_any X
  have hbl := bl_len m
  have Henc := hide (fun p (h : Ed.decPt (bl m) = some p) => Ed.enc_dec (bl m) (bl_len m) p h)
  have hk0 := hide k0
  have hk1 := hide k1
  have hk2 := hide k2
  have hk5 := hide k5
  have HI := hide ptInfo
  have HO := hide ptOne
  have HZ := hide ptZ
  have HIt := hide tpInfo
  have HOt := hide tpOne
  have HZt := hide tpZ
  have HsZp := hide (pInfo 0 0)
  have HoZp := hide (pC_one 0 0)
  have HsZm := hide (mInfo 0 0 0)
  have HoZm := hide (mC_one 0 0 0)
  have Hb0 := hide run_b0
  have HEp := hide (fun X => eq_pC X 0 0 0 0 (by decide) (by decide) (by decide) (by decide))
  have HgdP : Hid (Tryd.prog.eqGuardType Tryd.prog.depth 27 = false) := hide (by kernel_rfl)
  have HE : ∀ (l : List UInt8), l.length = 32 → Hid (∀ X, (Op.equalIn 10000 38 (.agg (zb l)) (.agg (zb l))).run Tryd.prog X = .ok true X) := fun l hl => hide (fun X => by
    have := run_eq_bytes (P := Tryd.prog) X 9998 38 5 32 Tryd.underlying38 Tryd.underlying5 (by kernel_rfl) l l hl hl
    rwa [decide_eq_true (rfl : l = l)] at this)
  have HE1 := HE _ (bl_len m)
  change Hid (∀ X, (Op.equalIn 10000 38 (.agg (zB m)) (.agg (zB m))).run Tryd.prog X = .ok true X) at HE1
  have HE2 := hide HE
  have HgdB : Hid (Tryd.prog.eqGuardType Tryd.prog.depth 38 = false) := hide (by kernel_rfl)
  have Hsome := hide (fun p h => decV_some m p h)
  have Hnone := hide (fun h => decV_none m h)
  have Hsomew := hide (fun p h => decW_some m p h)
  have Hnonew := hide (fun h => decW_none m h)
  have Hkn := hide (fun p X h => ptimes_pt p n (by rw [← h256]; exact hn) X h)
  have Hkt := hide (fun p X => mtimes_any (tOf p) n hn X)
  have Hhas := hide (fun (p : Ed.Pt) => Ed.Tp.times_all (tOf_has p) n (by rw [← h256]; exact hn))
  clear k0 k1 k2 k5 hbl HE hn hm h256
  have HsBm := hide (zBInfo m)
  have HoBm := hide (zBOne m)
  have HzBm := hide (zBSize 0 m)
  have HsNn := hide (eInfo4 n)
  have HoNn := hide (eOne n)
  have HzNn := hide (eSize 0 n)
  generalize hvBm : zB m = Bm at *
  have hvBm := hide hvBm
  generalize hvNn : q4 n = Nn at *
  clear hvNn
  generalize hvZB : zB 0 = ZB at *
  clear hvZB
  generalize hvZ4 : q4 0 = Z4 at *
  clear hvZ4
  generalize hvZp : pC 0 0 = Zp at *
  clear hvZp
  generalize hvZm : mC 0 0 0 = Zm at *
  clear hvZm
  generalize hvZn : n17 0 = Zn at *
  clear hvZn
  generalize n17 Ed.dN = Dd at *
  obtain ⟨Zq, hZq⟩ : ∃ z, z = Zp := ⟨_, rfl⟩
  obtain ⟨Zr, hZr⟩ : ∃ z, z = Zm := ⟨_, rfl⟩
  have HsZq : Hid ((Tryd.prog.info? 27).map (·.size) = some Zq.size) := hide (by rw [hZq]; exact HsZp.out)
  have HoZq : Hid (Zq.all (·.oneCell') = true) := hide (by rw [hZq]; exact HoZp.out)
  have HzZq : Hid (Zp.size = Zq.size) := hide (by rw [hZq])
  have HsZr : Hid ((Tryd.prog.info? 31).map (·.size) = some Zr.size) := hide (by rw [hZr]; exact HsZm.out)
  have HoZr : Hid (Zr.all (·.oneCell') = true) := hide (by rw [hZr]; exact HoZm.out)
  have HzZr : Hid (Zm.size = Zr.size) := hide (by rw [hZr])
  have HZq := hide hZq
  have HZr := hide hZr
  clear hZq hZr
  go_enter Tryd.func4, Tryd.ntmps4
  refine wp_seq_h fun K1 hK1 => ?_
  go_wp2_with fail
  refine hK1.out _ _ ?_
  clear hK1 K1
  generalize (w.alloc (.cells Bm 38)).alloc (.cells Nn 23) = w1 at *
  go_wp2_with fail
  refine (hk0.out _ (hT.below (all_below H1.out.right.right S1.out))).mono ?_
  rintro e w2 ⟨rfl, hB⟩
  have H2 := hide (H1.out.below hB)
  have S2 := hide (S1.out.trans (Str.below hB))
  clear hB H1 S1
  have gA := on_blk_mul H2.out.right
  go_wp2_with (first
    | (refine wpList_load_row rfl _ _ rfl (w.heap.size) rfl _ Bm _ _ gA hub rfl HsBm.out ?_))
  clear gA
  rcases hcase : Ed.decPt (bl m) with _ | p
  · have hv := Hnone.out hcase
    have hw := Hnonew.out hcase
    have hq1 : Hid (∀ X, TabC X → TabD X → Calls Tryd.prog 21 #[.agg Bm] X fun e w' => e = .returned (.tuple #[.agg Zq, .int .i64 7]) ∧ Below X.heap.size X w') := hide (fun X h h2 => by rw [HZq.out]; have := hk1.out X h h2; rwa [hv] at this)
    have hq2 : Hid (∀ X, Calls Tryd.prog 22 #[.agg Bm] X fun e w' => e = .returned (.tuple #[.agg Zr, .bool false]) ∧ Below X.heap.size X w') := hide (fun X => by rw [HZr.out]; have := hk2.out X; rwa [hw] at this)
    clear hv hw hcase
    refine (hq1.out _ (hT.below (all_below H2.out.right.right S2.out)) (hD.below (all_below H2.out.right.right S2.out))).mono ?_
    rintro e w3 ⟨rfl, hB⟩
    have H3 := hide (H2.out.below hB)
    have S3 := hide (S2.out.trans (Str.below hB))
    clear hB H2 S2
    have hN := H3.out.alloc (.cells Zp 27)
    have gN := on_blk_mul hN
    have hM := hN.setRow Zq
    have gM := on_blk_mul hM
    have H4 := hide hM
    have S4 := hide ((S3.out.alloc (.cells Zp 27)).setRow w3.heap.size Zq)
    clear hN hM
    have gL0 := on_blk_mul H4.out.right.right
    go_wp2_with (first
      | (refine wpList_store_row rfl _ _ _ rfl (w3.heap.size) Zq rfl rfl _ _ gN HsZq.out HzZq.out HoZq.out ?_)
      | (refine wpList_load_row rfl _ _ rfl (w.heap.size) rfl _ Bm _ _ gL0 hub rfl HsBm.out ?_))
    clear gL0
    generalize (w3.alloc (.cells Zp 27)).setRow w3.heap.size Zq = w4 at *
    clear gN gM H3 S3
    generalize w3.heap.size = p5 at *
    refine (hq2.out _).mono ?_
    rintro e w5 ⟨rfl, hB⟩
    have H5 := hide (H4.out.below hB)
    have S5 := hide (S4.out.trans (Str.below hB))
    clear hB H4 S4
    have HEp2 : Hid (∀ X : World, (Op.equalIn 10000 27 (.agg Zq) (.agg Zp)).run Tryd.prog X = .ok true X) := hide (fun X => by rw [HZq.out]; exact HEp.out X)
    have hN := H5.out.alloc (.cells Zm 31)
    have gN := on_blk_mul hN
    have hM := hN.setRow Zr
    have gM := on_blk_mul hM
    have H6 := hide hM
    have S6 := hide ((S5.out.alloc (.cells Zm 31)).setRow w5.heap.size Zr)
    clear hN hM
    have gP := on_blk_mul H6.out.right
    have HB := hide (all_below H6.out.right.right.right.right S6.out)
    go_wp2_with (first
      | (refine wpList_store_row rfl _ _ _ rfl (w5.heap.size) Zr rfl rfl _ _ gN HsZr.out HzZr.out HoZr.out ?_)
      | (refine load_row_w rfl _ _ rfl (p5) rfl _ Zq _ _ gP hup rfl HsZq.out ?_)
      | (refine b0_arm rfl 27 rfl Zp (Hb0.out _) ?_)
      | (refine eq_arm rfl _ _ _ _ rfl HgdP.out Zq Zp rfl rfl true (HEp2.out _) ?_))
    go_ret
    exact ⟨rfl, HB.out⟩
  · have hv := Hsome.out p hcase
    have hw := Hsomew.out p hcase
    have he := Henc.out p hcase
    have hq1 : Hid (∀ X, TabC X → TabD X → Calls Tryd.prog 21 #[.agg Bm] X fun e w' => e = .returned (.tuple #[.agg (ptC p), .int .i64 0]) ∧ Below X.heap.size X w') := hide (fun X h h2 => by have := hk1.out X h h2; rwa [hv] at this)
    have hq2 : Hid (∀ X, Calls Tryd.prog 22 #[.agg Bm] X fun e w' => e = .returned (.tuple #[.agg (tpC (tOf p)), .bool true]) ∧ Below X.heap.size X w') := hide (fun X => by have := hk2.out X; rwa [hw] at this)
    have k3 := fun X => pencode_pt p X
    rw [he] at k3
    have hBm : zb (bl m) = Bm := hvBm.out
    rw [hBm] at k3
    have k4 := fun X h => Hkn.out p X h
    have k6 := fun X => pencode_pt (p.mul n) X
    have k7 := fun X => Hkt.out p X
    have k8 := fun X => mencode_any (Hhas.out p) X
    have hk3 := hide k3
    have hk4 := hide k4
    have hk6 := hide k6
    have hk7 := hide k7
    have hk8 := hide k8
    have HE3 := HE2.out _ (Ed.enc_len (p.mul n))
    have HsPp := hide (HI.out p)
    have HoPp := hide (HO.out p)
    have HzPp := hide (HZ.out p)
    have HsTp := hide (HIt.out (tOf p))
    have HoTp := hide (HOt.out (tOf p))
    have HzTp := hide (HZt.out (tOf p))
    clear hv hw hcase he k3 k4 k6 k7 k8 hBm
    generalize zb (Ed.enc (p.mul n)) = Em at *
    generalize ptC p = Pp at *
    generalize ptC (p.mul n) = Pm at *
    generalize tpC (tOf p) = Tp at *
    generalize tpC (Ed.Tp.times (tOf p) n 256) = Tm at *
    refine (hq1.out _ (hT.below (all_below H2.out.right.right S2.out)) (hD.below (all_below H2.out.right.right S2.out))).mono ?_
    rintro e w3 ⟨rfl, hB⟩
    have H3 := hide (H2.out.below hB)
    have S3 := hide (S2.out.trans (Str.below hB))
    clear hB H2 S2
    have hN := H3.out.alloc (.cells Zp 27)
    have gN := on_blk_mul hN
    have hM := hN.setRow Pp
    have gM := on_blk_mul hM
    have H4 := hide hM
    have S4 := hide ((S3.out.alloc (.cells Zp 27)).setRow w3.heap.size Pp)
    clear hN hM
    have gL0 := on_blk_mul H4.out.right.right
    go_wp2_with (first
      | (refine wpList_store_row rfl _ _ _ rfl (w3.heap.size) Pp rfl rfl _ _ gN HsPp.out HzPp.out HoPp.out ?_)
      | (refine wpList_load_row rfl _ _ rfl (w.heap.size) rfl _ Bm _ _ gL0 hub rfl HsBm.out ?_))
    clear gL0
    generalize (w3.alloc (.cells Zp 27)).setRow w3.heap.size Pp = w4 at *
    clear gN gM H3 S3
    generalize w3.heap.size = p5 at *
    refine (hq2.out _).mono ?_
    rintro e w5 ⟨rfl, hB⟩
    have H5 := hide (H4.out.below hB)
    have S5 := hide (S4.out.trans (Str.below hB))
    clear hB H4 S4
    have hN := H5.out.alloc (.cells Zm 31)
    have gN := on_blk_mul hN
    have hM := hN.setRow Tp
    have gM := on_blk_mul hM
    have H6 := hide hM
    have S6 := hide ((S5.out.alloc (.cells Zm 31)).setRow w5.heap.size Tp)
    clear hN hM
    go_wp2_with (first
      | (refine wpList_store_row rfl _ _ _ rfl (w5.heap.size) Tp rfl rfl _ _ gN HsTp.out HzTp.out HoTp.out ?_))
    generalize (w5.alloc (.cells Zm 31)).setRow w5.heap.size Tp = w6 at *
    clear gN gM H5 S5
    generalize w5.heap.size = p7 at *
    have hT0 := hide (hTab.out.below (all_below H6.out.right.right.right.right S6.out))
    refine wp_region_tail 20 [isV (.int .i64 0), isV (.bool true), isV (.bool true), isV (.agg Pp), isV (.agg Bm), isV (.agg Bm), isV (.bool true), isV (.bool true), isV (.bool true), isV (.agg Pp), isV (.agg Nn), isV (.agg Pm), isV (.agg Em), isV (.agg Tp), isV (.agg Nn), isV (.agg Dd), isV (.agg Tm), isV (.agg Em), isV (.bool true), isV (.bool true)]
      (by simp only [List.take_succ_cons, List.take_zero]; rfl) (by simp only [List.drop_succ_cons, List.drop_zero]; rfl) (by kernel_rfl) (by kernel_rfl) (by kernel_rfl) (by decide) rfl ?keep ?todo ?rest
    case keep => exact ⟨Keep.isV _, Keep.isV _, Keep.isV _, Keep.isV _, Keep.isV _, Keep.isV _, Keep.isV _, Keep.isV _, Keep.isV _, Keep.isV _, Keep.isV _, Keep.isV _, Keep.isV _, Keep.isV _, Keep.isV _, Keep.isV _, Keep.isV _, Keep.isV _, Keep.isV _, Keep.isV _, trivial⟩
    case todo =>
      refine ⟨?_, ?_, ?_, ?_, ?_, ?_, ?_, ?_, ?_, ?_, ?_, ?_, ?_, ?_, ?_, ?_, ?_, ?_, ?_, ?_, trivial⟩
      · intro ev X hT hb hk hf
        have e0 : ev (.tmp 6) = .int .i64 0 := hk.1
        exact OpOk.move rfl e0 ⟨rfl, Stay.refl _⟩
      · intro ev X hT hb hk hf
        have e0 : ev (.tmp 30) = .int .i64 0 := hf.1
        exact OpOk.run (v := .bool true) (W' := X) (by simp [execOp, e0, hb.1, go_sem]) ⟨rfl, Stay.refl _⟩
      · intro ev X hT hb hk hf
        have e0 : ev (.tmp 31) = .bool true := hf.1
        exact OpOk.move rfl e0 ⟨rfl, Stay.refl _⟩
      · intro ev X hT hb hk hf
        refine ⟨true, hf.1, fun _ => ?_, fun h => (h rfl).elim⟩
        have e0 : ev (.tmp 5) = .pointer (some ⟨p5, 0, Option.none⟩) := hk.1
        exact OpOk.load_row _ _ rfl _ e0 _ Pp (0, 0) _ (on_blk_mul (H6.out.below hT).right) hup rfl HsPp.out ⟨rfl, Stay.refl _⟩
      · intro ev X hT hb hk hf
        refine ⟨true, hf.2.1, fun _ => ?_, fun h => (h rfl).elim⟩
        have e0 : ev (.tmp 33) = .agg Pp := hf.1
        refine OpOk.enters (f := 15) (args := #[.agg Pp]) (W' := X) (by simp [execOp, resolve, invoke, e0, hb.1, hb.2.1, go_sem]) ((hk3.out X).mono ?_)
        rintro e _ ⟨rfl, hB⟩
        exact ⟨_, rfl, rfl, hB⟩
      · intro ev X hT hb hk hf
        refine ⟨true, hf.1, fun _ => ?_, fun h => (h rfl).elim⟩
        have e0 : ev (.tmp 2) = .pointer (some ⟨w.heap.size, 0, Option.none⟩) := hk.1
        exact OpOk.load_row _ _ rfl _ e0 _ Bm (0, 0) _ (on_blk_mul (H6.out.below hT).right.right.right) hub rfl HsBm.out ⟨rfl, Stay.refl _⟩
      · intro ev X hT hb hk hf
        refine ⟨true, hf.2.2.1, fun _ => ?_, fun h => (h rfl).elim⟩
        have e0 : ev (.tmp 34) = .agg Bm := hf.1
        have e1 : ev (.tmp 35) = .agg Bm := hf.2.1
        exact OpOk.run (v := .bool true) (W' := X) (by
          unfold execOp
          simp only [e0, e1, Sem.run_bind, run_eqGuard_agg X _ _ _ _ _ _ HgdB.out, run_eql_struct, HE1.out X, Result.andThen_ok]
          rfl) ⟨rfl, Stay.refl _⟩
      · intro ev X hT hb hk hf
        have e0 : ev (.tmp 32) = .bool true := hf.1
        have e1 : ev (.tmp 36) = .bool true := hf.2.1
        exact OpOk.run (v := .bool true) (W' := X) (by simp [execOp, e0, e1, hb, hb.1, hb.2.1, hb.2.2, go_sem]) ⟨rfl, Stay.refl _⟩
      · intro ev X hT hb hk hf
        have e0 : ev (.tmp 37) = .bool true := hf.1
        exact OpOk.move rfl e0 ⟨rfl, Stay.refl _⟩
      · intro ev X hT hb hk hf
        refine ⟨true, hf.1, fun _ => ?_, fun h => (h rfl).elim⟩
        have e0 : ev (.tmp 5) = .pointer (some ⟨p5, 0, Option.none⟩) := hk.1
        exact OpOk.load_row _ _ rfl _ e0 _ Pp (0, 0) _ (on_blk_mul (H6.out.below hT).right) hup rfl HsPp.out ⟨rfl, Stay.refl _⟩
      · intro ev X hT hb hk hf
        refine ⟨true, hf.1, fun _ => ?_, fun h => (h rfl).elim⟩
        have e0 : ev (.tmp 3) = .pointer (some ⟨w.heap.size + 1, 0, Option.none⟩) := hk.1
        exact OpOk.load_row _ _ rfl _ e0 _ Nn (0, 0) _ (on_blk_mul (H6.out.below hT).right.right) hu4 rfl HsNn.out ⟨rfl, Stay.refl _⟩
      · intro ev X hT hb hk hf
        refine ⟨true, hf.2.2.1, fun _ => ?_, fun h => (h rfl).elim⟩
        have e0 : ev (.tmp 39) = .agg Pp := hf.1
        have e1 : ev (.tmp 40) = .agg Nn := hf.2.1
        refine OpOk.enters (f := 23) (args := #[.agg Pp, .agg Nn]) (W' := X) (by simp [execOp, resolve, invoke, e0, e1, hb.1, hb.2.1, go_sem]) ((hk4.out X (hT0.out.below hT)).mono ?_)
        rintro e _ ⟨rfl, hB⟩
        exact ⟨_, rfl, rfl, hB⟩
      · intro ev X hT hb hk hf
        refine ⟨true, hf.2.2.1, fun _ => ?_, fun h => (h rfl).elim⟩
        have e0 : ev (.tmp 41) = .agg Pm := hf.1
        refine OpOk.enters (f := 15) (args := #[.agg Pm]) (W' := X) (by simp [execOp, resolve, invoke, e0, hb.1, hb.2.1, go_sem]) ((hk6.out X).mono ?_)
        rintro e _ ⟨rfl, hB⟩
        exact ⟨_, rfl, rfl, hB⟩
      · intro ev X hT hb hk hf
        refine ⟨true, hf.1, fun _ => ?_, fun h => (h rfl).elim⟩
        have e0 : ev (.tmp 7) = .pointer (some ⟨p7, 0, Option.none⟩) := hk.1
        exact OpOk.load_row _ _ rfl _ e0 _ Tp (0, 0) _ (on_blk_mul (H6.out.below hT)) hum rfl HsTp.out ⟨rfl, Stay.refl _⟩
      · intro ev X hT hb hk hf
        refine ⟨true, hf.1, fun _ => ?_, fun h => (h rfl).elim⟩
        have e0 : ev (.tmp 3) = .pointer (some ⟨w.heap.size + 1, 0, Option.none⟩) := hk.1
        exact OpOk.load_row _ _ rfl _ e0 _ Nn (0, 0) _ (on_blk_mul (H6.out.below hT).right.right) hu4 rfl HsNn.out ⟨rfl, Stay.refl _⟩
      · intro ev X hT hb hk hf
        refine ⟨true, hf.2.1, fun _ => ?_, fun h => (h rfl).elim⟩
        refine OpOk.enters (f := 14) (args := #[]) (W' := X) (by simp [execOp, resolve, invoke, hb.1, hb.2.1, go_sem]) ((hk5.out X).mono ?_)
        rintro e _ ⟨rfl, hB⟩
        exact ⟨_, rfl, rfl, hB⟩
      · intro ev X hT hb hk hf
        refine ⟨true, hf.2.2.2.2.1, fun _ => ?_, fun h => (h rfl).elim⟩
        have e0 : ev (.tmp 43) = .agg Tp := hf.1
        have e1 : ev (.tmp 44) = .agg Nn := hf.2.1
        have e2 : ev (.tmp 45) = .agg Dd := hf.2.2.1
        refine OpOk.enters (f := 24) (args := #[.agg Tp, .agg Nn, .agg Dd]) (W' := X) (by simp [execOp, resolve, invoke, e0, e1, e2, hb.1, hb.2.1, go_sem]) ((hk7.out X).mono ?_)
        rintro e _ ⟨rfl, hB⟩
        exact ⟨_, rfl, rfl, hB⟩
      · intro ev X hT hb hk hf
        refine ⟨true, hf.2.2.1, fun _ => ?_, fun h => (h rfl).elim⟩
        have e0 : ev (.tmp 46) = .agg Tm := hf.1
        refine OpOk.enters (f := 16) (args := #[.agg Tm]) (W' := X) (by simp [execOp, resolve, invoke, e0, hb.1, hb.2.1, go_sem]) ((hk8.out X).mono ?_)
        rintro e _ ⟨rfl, hB⟩
        exact ⟨_, rfl, rfl, hB⟩
      · intro ev X hT hb hk hf
        refine ⟨true, hf.2.2.1, fun _ => ?_, fun h => (h rfl).elim⟩
        have e0 : ev (.tmp 42) = .agg Em := hf.1
        have e1 : ev (.tmp 47) = .agg Em := hf.2.1
        exact OpOk.run (v := .bool true) (W' := X) (by
          unfold execOp
          simp only [e0, e1, Sem.run_bind, run_eqGuard_agg X _ _ _ _ _ _ HgdB.out, run_eql_struct, HE3.out X, Result.andThen_ok]
          rfl) ⟨rfl, Stay.refl _⟩
      · intro ev X hT hb hk hf
        have e0 : ev (.tmp 38) = .bool true := hf.1
        have e1 : ev (.tmp 48) = .bool true := hf.2.1
        exact OpOk.run (v := .bool true) (W' := X) (by simp [execOp, e0, e1, hb, hb.1, hb.2.1, hb.2.2, go_sem]) ⟨rfl, Stay.refl _⟩
    case rest =>
      intro w7 hX
      rintro _ rfl _ rfl _ rfl _ rfl _ rfl _ rfl _ rfl _ rfl _ rfl _ rfl _ rfl _ rfl _ rfl _ rfl _ rfl _ rfl _ rfl _ rfl _ rfl _ rfl
      have H7 := hide (H6.out.below hX)
      have S7 := hide (S6.out.trans (Str.below hX))
      clear hX H6 S6
      clear hT0
      go_wp2
      refine Rest.done ?_
      have HB := hide (all_below H7.out.right.right.right.right S7.out)
      go_wp2_with fail
      go_ret
      exact ⟨rfl, HB.out⟩
end Cv
open Go.ChangeShapes Go.WideShapes Go.ChangeAt Go.RowKit
theorem walk_CurveBytes (w : World) (hL : laidMetH Tryd.prog Rows.curveBytesRow.laid w) (l : List UInt8) (hl : l.length = 32) (n : Nat) (hn : n < 18446744073709551616 ^ 4) :
    Calls Tryd.prog 4 #[.agg (zb l), .agg (q4 n)] w fun e w' => e = .returned (.bool true) ∧ Below w.heap.size w w' := by
  obtain ⟨hT, hD⟩ := Cv.tab_bytes hL
  have h1 := Fe.leN_lt32 l hl
  have h := Cv.cb_nat w hT hD (leN l) h1 n hn
  have e : Cv.zB (leN l) = zb l := by unfold Cv.zB; rw [Fe.bl_leN l hl]
  rwa [e] at h
namespace lawCurveBytes
theorem own : ownKnob Tryd.prog.godebug = Option.none := by kernel_rfl
theorem laidOut : laidOutB Tryd.prog = true := by kernel_rfl

set_option maxRecDepth 100000 in
theorem contract (H : Type) (enc : TypeId × Value → H) (W : World) (base : Nat) (args : Array Value) (ds gs : List (DataW H)) (before : List MemPlace)
    (hval0 : ∀ (j : Nat) t v, Tryd.f4.params[j]? = some t → args[j]? = some v → Value.okWide Tryd.prog W .any base t v)
    (hW : DataW.Whole enc Tryd.prog Tryd.f4.params.toList Rows.curveBytesSpec.vars false W args.toList ds gs before) (hsz : (DataW.weightsEach Tryd.prog (Tryd.f4.params.toList ++ (OpenSpec.ofChange Rows.curveBytesSpec).bare.plain.varTypes Tryd.prog) (ds ++ gs)).all (· ≤ reachBytes) = true) (hL : laidMetH Tryd.prog Rows.curveBytesRow.laid W) :
    Calls Tryd.prog 4 args W fun e W' => ∃ v, e = .returned v ∧ Rows.curveBytesSpec.post enc Tryd.prog Tryd.f4 false true false false W args v W' := by
  have hval : ∀ (j : Nat) t v, Tryd.f4.params[j]? = some t → args[j]? = some v → Value.okWide Tryd.prog W .any base t v := hval0
  have hW' := hW
  obtain ⟨p, q, hA0, hV, rfl, hfz, hnd⟩ := hW
  have hA : DataW.TrodAll enc Tryd.prog W 0 (fun _ => true) true Tryd.f4.params.toList args.toList ds p := hA0
  rw [Tryd.params4] at hA hval
  obtain ⟨v0, vs0, d0, ds0, p0, q0, hargs, rfl, rfl, h0, r0⟩ := trodAll_cons hA
  obtain ⟨v1, vs1, d1, ds1, p1, q1, rfl, rfl, rfl, h1, r1⟩ := trodAll_cons r0
  obtain ⟨rfl, rfl, rfl⟩ := trodAll_nil r1
  obtain rfl : args = #[v0, v1] := by cases args; simp_all
  obtain ⟨rfl, rfl⟩ := trodVars_none hV
  have k0 := h0
  have lt0 : ∀ x ∈ p0, x.block < W.heap.size := by obtain ⟨m, hm⟩ := k0; exact DataW.trod_lt m _ _ _ hm
  obtain ⟨s0, rfl, b0⟩ := open_b32 (hval 0 38 v0 rfl rfl) h0
  have k1 := h1
  have lt1 : ∀ x ∈ p1, x.block < W.heap.size := by obtain ⟨m, hm⟩ := k1; exact DataW.trod_lt m _ _ _ hm
  obtain ⟨s1, rfl, b1⟩ := open_limbs (hval 1 23 v1 rfl rfl) h1
  clear hA0 hval0 hsz
  refine (walk_CurveBytes W hL s0 b0 s1 b1).mono fun e W' ⟨he, bel⟩ => ?_
  subst he
  exact ⟨_, rfl, _, _, _, [], _, [], hW', trodAll_mk1 (shut_bool Tryd.underlying4 _), (trodAll_cons_mk (Below.trod laidOut (by kernel_rfl) (of_decide_eq_true (by kernel_rfl)) k0 bel lt0) (trodAll_cons_mk (Below.trod laidOut (by kernel_rfl) (of_decide_eq_true (by kernel_rfl)) k1 bel lt1) trodAll_mk0)), rfl, bel.frame _, fun h => by cases h⟩

/-- a world for the witness: the settled one, the listed variables holding what their initialisers lay -/
def litCells (d : DataW Unit) : Array Value := match d with
  | .agg l => (l.filterMap fun x => match x with | .lit (.int k n) => some (Value.int k n) | _ => Option.none).toArray
  | _ => #[]
noncomputable def laidWorld (os : Os) : World :=
  { World.holding Tryd.prog os ⟨#[], #[], []⟩ with heap := (((((((((World.holding Tryd.prog os ⟨#[], #[], []⟩).heap.modify 5 fun
      | .cells _ t frozen => .cells (litCells Rows.laid_bosun_field_modulus) t frozen
      | o => o).modify 6 fun
      | .cells _ t frozen => .cells (litCells Rows.laid_bosun_field_lessTwo) t frozen
      | o => o).modify 7 fun
      | .cells _ t frozen => .cells (litCells Rows.laid_bosun_field_eighth) t frozen
      | o => o).modify 8 fun
      | .cells _ t frozen => .cells (litCells Rows.laid_bosun_field_rootOfMinusOne) t frozen
      | o => o).modify 4 fun
      | .cells _ t frozen => .cells (litCells Rows.laid_bosun_curve_d) t frozen
      | o => o).modify 3 fun
      | .cells _ t frozen => .cells (litCells Rows.laid_bosun_curve_dTwice) t frozen
      | o => o).modify 0 fun
      | .cells _ t frozen => .cells (litCells Rows.laid_bosun_curve_baseX) t frozen
      | o => o).modify 1 fun
      | .cells _ t frozen => .cells (litCells Rows.laid_bosun_curve_baseY) t frozen
      | o => o) }
theorem laid_met (os : Os) : laidMet Tryd.prog Rows.curveBytesRow.laid ((laidWorld os).forCall (fun _ _ => 0) ⟨#[], #[.agg #[.int .u8 0, .int .u8 0, .int .u8 0, .int .u8 0, .int .u8 0, .int .u8 0, .int .u8 0, .int .u8 0, .int .u8 0, .int .u8 0, .int .u8 0, .int .u8 0, .int .u8 0, .int .u8 0, .int .u8 0, .int .u8 0, .int .u8 0, .int .u8 0, .int .u8 0, .int .u8 0, .int .u8 0, .int .u8 0, .int .u8 0, .int .u8 0, .int .u8 0, .int .u8 0, .int .u8 0, .int .u8 0, .int .u8 0, .int .u8 0, .int .u8 0, .int .u8 0], .agg #[.int .u64 0, .int .u64 0, .int .u64 0, .int .u64 0]], []⟩).memory :=
  laidMet_of_run' 8 (by kernel_rfl) (by kernel_rfl)
theorem reads (os : Os) {H : Type} (enc : TypeId × Value → H) : ∃ places, DataW.whole enc Tryd.prog ((laidWorld os).forCall (fun _ _ => 0) ⟨#[], #[.agg #[.int .u8 0, .int .u8 0, .int .u8 0, .int .u8 0, .int .u8 0, .int .u8 0, .int .u8 0, .int .u8 0, .int .u8 0, .int .u8 0, .int .u8 0, .int .u8 0, .int .u8 0, .int .u8 0, .int .u8 0, .int .u8 0, .int .u8 0, .int .u8 0, .int .u8 0, .int .u8 0, .int .u8 0, .int .u8 0, .int .u8 0, .int .u8 0, .int .u8 0, .int .u8 0, .int .u8 0, .int .u8 0, .int .u8 0, .int .u8 0, .int .u8 0, .int .u8 0], .agg #[.int .u64 0, .int .u64 0, .int .u64 0, .int .u64 0]], []⟩).memory Tryd.f4.params.toList Rows.curveBytesSpec.vars false (#[.agg #[.int .u8 0, .int .u8 0, .int .u8 0, .int .u8 0, .int .u8 0, .int .u8 0, .int .u8 0, .int .u8 0, .int .u8 0, .int .u8 0, .int .u8 0, .int .u8 0, .int .u8 0, .int .u8 0, .int .u8 0, .int .u8 0, .int .u8 0, .int .u8 0, .int .u8 0, .int .u8 0, .int .u8 0, .int .u8 0, .int .u8 0, .int .u8 0, .int .u8 0, .int .u8 0, .int .u8 0, .int .u8 0, .int .u8 0, .int .u8 0, .int .u8 0, .int .u8 0], .agg #[.int .u64 0, .int .u64 0, .int .u64 0, .int .u64 0]] : Array Value).toList 8 = some ([.agg (List.replicate 32 (.lit (.int .u8 0))), .agg (List.replicate 4 (.lit (.int .u64 0)))], [], places) :=
  ⟨[], by kernel_rfl⟩

set_option maxRecDepth 100000 in
theorem lifted (os : Os) (started : os.Started) (H : Type) (enc : TypeId × Value → H) (F : Stop.Interp) :
    ReturnsInHanded {} Tryd.checked os 4 .any ((OpenSpec.ofChange Rows.curveBytesSpec).preRow enc Tryd.prog Tryd.f4 Rows.curveBytesRow.domain false Rows.curveBytesRow.laid) (((OpenSpec.ofChange Rows.curveBytesSpec).at F).post enc Tryd.prog Tryd.f4 false true false false) := by
  obtain ⟨places, hx⟩ := reads os enc
  refine returnsInHanded_of_row (C := Tryd.checked) (s := OpenSpec.ofChange Rows.curveBytesSpec) own started (by kernel_rfl) Tryd.func4
    (witness_row_at (enc := enc) (C := Tryd.checked) false (laidWorld os) #[.agg #[.int .u8 0, .int .u8 0, .int .u8 0, .int .u8 0, .int .u8 0, .int .u8 0, .int .u8 0, .int .u8 0, .int .u8 0, .int .u8 0, .int .u8 0, .int .u8 0, .int .u8 0, .int .u8 0, .int .u8 0, .int .u8 0, .int .u8 0, .int .u8 0, .int .u8 0, .int .u8 0, .int .u8 0, .int .u8 0, .int .u8 0, .int .u8 0, .int .u8 0, .int .u8 0, .int .u8 0, .int .u8 0, .int .u8 0, .int .u8 0, .int .u8 0, .int .u8 0], .agg #[.int .u64 0, .int .u64 0, .int .u64 0, .int .u64 0]] rfl (by kernel_rfl) (by kernel_rfl) (by kernel_rfl)
      (OpenSpec.preRow_of_cond 8 hx (by kernel_rfl) (fun k hk => by cases hk) (by kernel_rfl) (laid_met os))) ?_
  intro W base args ds gs before hval hW _ _ hsz hL _ _
  exact contract H enc W base args ds gs before hval hW hsz hL

theorem said : Rows.CurveBytesSaid :=
  OpenClaim.holds_of_cond 4 Tryd.f4 rfl rfl rfl rfl rfl rfl rfl ⟨rfl, rfl, rfl, rfl, rfl⟩ rfl rfl rfl rfl rfl (by kernel_rfl) Tryd.func4 (by kernel_rfl)
    (of_decide_eq_true (by kernel_rfl)) (by unfold Func.isWrapper; first | (rw [if_pos (by decide +kernel)]; kernel_rfl) | (rw [if_neg (by decide +kernel)]; exact ⟨rfl, rfl⟩))
    (fun os started H enc _ F => by rw [OpenClaim.pre_eq_preRow]; exact lifted os started H enc F)

theorem plain (f : FuncId) (fn : Func) (hf : Tryd.pinned.checked.prog.funcNamed "bosun/bosunlaw07.CurveBytes" = some f) (hfn : Tryd.pinned.checked.prog.funcs[f]? = some fn) :
    false = Tryd.pinned.checked.prog.looks [] ∧ ∀ (j : Nat) t, fn.params[j]? = some t → Tryd.pinned.checked.prog.wantsStandIn t = false := by
  obtain rfl : f = 4 := Option.some.inj ((show Tryd.prog.funcNamed "bosun/bosunlaw07.CurveBytes" = some 4 by kernel_rfl).symm.trans hf) |>.symm
  obtain rfl : fn = Tryd.f4 := (Option.some.inj (Tryd.func4.symm.trans hfn)).symm
  refine ⟨by kernel_rfl, fun j t ht => ?_⟩
  rw [Tryd.params4] at ht
  have hm : t ∈ [38, 23] := by simpa using Array.mem_of_getElem? ht
  have hall : ∀ t ∈ [38, 23], Tryd.prog.wantsStandIn t = false := by
    intro t ht
    simp only [List.mem_cons, List.not_mem_nil, or_false] at ht
    rcases ht with rfl | rfl <;> kernel_rfl
  exact hall t hm

theorem proved : Rows.CurveBytesCardSaid :=
  Claim7.holds_tied_plain_at .later [] _ _ _ _ said (fun _ h => by cases h) (by kernel_rfl) (fun _ h => by cases h) curveBytes_row_tie rfl ⟨rfl, rfl⟩ (by kernel_rfl) rfl plain (by kernel_rfl)
end lawCurveBytes
end Go.Proofs.YtbplbdnofobbiaaDoor
