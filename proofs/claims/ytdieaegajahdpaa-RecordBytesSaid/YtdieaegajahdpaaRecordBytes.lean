/- The law RecordBytes: any record's bytes, and whether it may be; they are parsed to it; with a bit turned they are none. -/
import Derived.Test.YtdieaegajahdpaaRecOpen
namespace Go.Proofs.Ytdieaegajahdpaa
open Go.ChangeShapes Go.WideShapes Go.ChangeAt Go.RowKit
set_option linter.unusedVariables false
set_option linter.unusedSimpArgs false

theorem recGot_bytes (s : RecS) (ok : s.Ok) (hr : s.right = true) : recGot (recBytes s) = s := by
  unfold recGot
  rw [recErr_bytes s ok hr, if_pos rfl, read_bytes s ok (by simp only [RecS.right, decide_eq_true_eq] at hr; omega)]

set_option maxRecDepth 100000 in
set_option maxHeartbeats 16000000 in
theorem walk_RecordBytes (w : World) (s : RecS) (iv : Value) (hn : s.Nums) (hb : IsBytes w iv s.init) (bit : Int) (hb0 : -9223372036854775808 ≤ bit) (hb1 : bit ≤ 9223372036854775807) :
    Calls Try.prog 3 #[.agg (recCells s iv), .int .i64 bit] w fun e w' => e = .returned (.bool true) ∧ Below w.heap.size w w' := by
  have hur := Try.underlying25
  have hsr : (Try.prog.info? 25).map (·.size) = some 7 := by kernel_rfl
  have Hb := hide hb
  obtain ⟨ia, ic, rfl, hic, him, _, _⟩ := hb
  unfold maxLen at him
  have hbox := heap_alloc_new w (.cells (recCells s (.slice ia s.init.length ic)) 25)
  by_cases hlen : 300 < s.init.length
  · go_enter Try.func3, Try.ntmps3
    go_wp2_with fail
    refine (lives13_any _).mono ?_
    rintro e w1 ⟨rfl, hb1⟩
    obtain ⟨_, _, _, _, _, _, c6⟩ := boxCells ((hb1.block w.heap.size (by simp)).trans hbox)
    have HB1 := hide (Below.trans alloc1 (hb1.mono (by simp)))
    clear hb1 hbox hsr hur
    generalize s.init.length = n at *
    go_wp2_with fail
    refine (lives13_any _).mono ?_
    rintro e w2 ⟨rfl, hb2⟩
    go_wp2
    go_ret
    exact ⟨rfl, HB1.out.trans (hb2.mono HB1.out.size)⟩
  · have hlen2 : s.init.length ≤ 300 := by omega
    have Hok := hide (hn.ok (by omega))
    have hu := Try.underlying23
    have hu8 := Try.underlying5
    have hstr := Try.underlying9
    clear hlen hn
    go_enter Try.func3, Try.ntmps3
    go_wp2_with fail
    refine (lives13_any _).mono ?_
    rintro e w2 ⟨rfl, hb2⟩
    have H2 := hide (((on_all w).alloc (.cells (recCells s (.slice ia s.init.length ic)) 25)).below hb2)
    have Hs2 := hide (((Str.refl w).alloc (.cells (recCells s (.slice ia s.init.length ic)) 25)).trans (Str.below hb2))
    clear hb2 hbox
    have hgR := on_blk_mul H2.out
    obtain ⟨_, _, _, _, _, _, c6⟩ := boxCells hgR
    have h3 := (H2.out.alloc (.cells zc 25)).setRow (recCells s (.slice ia s.init.length ic))
    have hs3 := (Hs2.out.alloc (.cells zc 25)).setRow w2.heap.size (recCells s (.slice ia s.init.length ic))
    have hr2 := heap_alloc_new w2 (.cells zc 25)
    generalize hW3 : (w2.alloc (.cells zc 25)).setRow w2.heap.size (recCells s (.slice ia s.init.length ic)) = w3 at *
    have HW3 := hide hW3
    clear hW3
    have Hown := hide (own_new 5 1 0 [] h3 rfl (by decide))
    obtain ⟨_, _, _, _, _, _, c6'⟩ := boxCells (((Below.refl _ w3).alloc (Nat.le_refl _) (.cells #[] 5)).block _ (Array.getElem?_eq_some_iff.1 (on_blk_mul h3.right)).1 |>.trans (on_blk_mul h3.right))
    have Hbl := hide ((Hb.out.below (all_below h3.right.right hs3)).below (alloc1 (o := .cells #[] 5)))
    have Hs3 := hide (hs3.alloc (.cells #[] 5))
    clear h3 hs3 H2 Hs2
    go_wp2_with (first
      | (refine wpList_store_row rfl _ _ _ rfl w2.heap.size (recCells s _) rfl rfl _ _ hr2 hsr (zc_size _ _) (recCells_one _ _ _ _) ?_; rw [HW3.out])
      | (refine wpList_load_row rfl _ _ rfl w.heap.size rfl _ (recCells s _) _ _ hgR hur rfl hsr ?_)
      | (at_builtin; refine wpList_append_bytes (F := blk w2.heap.size (.cells (recCells s (.slice ia s.init.length ic)) 25 (0, 0)) * (blk w.heap.size (.cells (recCells s (.slice ia s.init.length ic)) 25 (0, 0)) * all w)) rfl _ _ 23 rfl 5 hu infoR _ [] s.init rfl Hown.out _ rfl Hbl.out (by simp; omega) ?_; intro v w4 ho hs; rw [List.nil_append] at ho; obtain ⟨oa, oc, rfl, _, _, _, _⟩ := own_value ho; have Hst4 := hide ((Hs3.out.trans hs).setCell ⟨w2.heap.size, 6, Option.none⟩ (.slice oa s.init.length oc)); have fr := frozen_of_row _ _ 6 _ _ (on_blk_mul ho.right); have cc := cell_of_row _ _ 6 _ _ _ (on_blk_mul ho.right); have ho2 := ho; rw [SP.mul_left_comm] at ho2; have h3 := SP.on.setCell (i := 6) ho2 (.slice oa s.init.length oc); have h4 : (blk w2.heap.size (.cells (recCells s (.slice oa s.init.length oc)) 25 (0, 0)) * (own 5 1 (.slice oa s.init.length oc) s.init.length (vbs s.init) * (blk w.heap.size (.cells (recCells s (.slice ia s.init.length ic)) 25 (0, 0)) * all w))).on (w4.setCell ⟨w2.heap.size, 6, Option.none⟩ (.slice oa s.init.length oc)) := h3; have hg := on_blk_mul h4; have hE := rencode_any s _ _ Hok.out (own_bytes h4.right); have H4 := hide h4; clear ho hs ho2 h3 h4)
      | (refine wpList_load_row rfl _ _ rfl w2.heap.size rfl _ (recCells s _) _ _ hg hur rfl hsr ?_))
    refine hE.mono ?_
    clear hE hg fr cc hr2 HW3 hgR c6 c6' Hbl Hown Hs3
    intro e w5 hE5
    obtain ⟨out, rfl, ho5, hs5⟩ := hE5.both
    have H5 := hide (on_all_to ho5 H4.out)
    have Hs5 := hide (Hst4.out.trans hs5)
    obtain ⟨b1, c1, rfl, _, _, _, _⟩ := own_value ho5
    clear ho5 hs5 hE5 H4 Hst4
    have hgR := on_blk_mul H5.out.right.right.right
    have hOf := of_any s ia s.init.length ic w5
    go_wp2_with (refine wpList_load_row rfl _ _ rfl w.heap.size rfl _ (recCells s _) _ _ hgR hur rfl hsr ?_)
    refine hOf.mono ?_
    clear hOf hgR
    rintro e w6 ⟨rfl, hb6⟩
    have H6 := hide (H5.out.below hb6)
    have Hs6 := hide (Hs5.out.trans (Str.below hb6))
    have hE2 := rrencode_any s _ w6 Hok.out (Hb.out.below (all_below H6.out.right.right.right.right Hs6.out))
    clear hb6 H5 Hs5
    go_wp2_with fail
    refine hE2.mono ?_
    clear hE2
    intro e w7 hE7
    obtain ⟨out2, rfl, ho7, hs7⟩ := hE7.both
    have H7 := hide (on_all_to ho7 H6.out)
    have Hs7 := hide (Hs6.out.trans hs7)
    obtain ⟨b2, c2, rfl, _, _, hl2, _⟩ := own_value ho7
    obtain ⟨_, _, e1, _, _, hl1, _⟩ := own_value H7.out.right
    simp only [Value.slice.injEq] at e1
    obtain ⟨rfl, _, rfl⟩ := e1
    have Hl1 := hide hl1
    have Hl2 := hide hl2
    have G5 := hide (on_blk_mul H7.out.right.right)
    have GR := hide (on_blk_mul H7.out.right.right.right.right)
    have Hov := hide (own_bytes H7.out.right.right.right)
    have Hiv := hide (Hb.out.below (all_below H7.out.right.right.right.right.right Hs7.out))
    clear ho7 hs7 hE7 H6 Hs6 hl1 hl2
    have Hg := hide (show encGot s = if s.right = true then recBytes s else [] from rfl)
    have Hz := hide (show encErr s = if s.right = true then 0 else 1 from rfl)
    generalize encGot s = g at *
    generalize encErr s = z at *
    go_wp2_with fail
    refine wp_region_vs [isV (.int .i64 (z : Nat)), isV (.int .i64 (z : Nat)), isV (.bool false), isV (.bool false), isV (.slice b1 g.length c1), isV (.string (strOf g)), isV (.slice b2 g.length c2), isV (.string (strOf g)), isV (.bool false), isV (.bool false), isV (.bool false), isV (.agg (recCells s (.slice ia s.init.length ic))), isV (.bool s.right), isV (.agg (recCells s (.slice ia s.init.length ic))), isV (.agg (refCells s (.slice ia s.init.length ic))), isV (.bool s.right), isV (.bool false), isV (.bool false), isV (.bool false), isV (.agg (recCells s (.slice oa s.init.length oc))), isV (.agg (recCells s (.slice ia s.init.length ic))), isV (.bool true), isV (.bool false), isV (.bool false)]
      (by kernel_rfl) (by kernel_rfl) rfl ?keep ?todo ?rest
    case keep => exact ⟨Keep.isV _, Keep.isV _, Keep.isV _, Keep.isV _, Keep.isV _, Keep.isV _, Keep.isV _, Keep.isV _, Keep.isV _, Keep.isV _, Keep.isV _, Keep.isV _, Keep.isV _, Keep.isV _, Keep.isV _, Keep.isV _, Keep.isV _, Keep.isV _, Keep.isV _, Keep.isV _, Keep.isV _, Keep.isV _, Keep.isV _, Keep.isV _, trivial⟩
    case todo =>
      refine ⟨?_, ?_, ?_, ?_, ?_, ?_, ?_, ?_, ?_, ?_, ?_, ?_, ?_, ?_, ?_, ?_, ?_, ?_, ?_, ?_, ?_, ?_, ?_, ?_, trivial⟩
      · intro ev X hT hb hk hf
        have e0 : ev (.tmp 7) = .int .i64 (z : Nat) := hk.1
        exact OpOk.move rfl e0 ⟨rfl, Stay.refl _⟩
      · intro ev X hT hb hk hf
        have e0 : ev (.tmp 9) = .int .i64 (z : Nat) := hk.1
        exact OpOk.move rfl e0 ⟨rfl, Stay.refl _⟩
      · intro ev X hT hb hk hf
        have e0 : ev (.tmp 43) = .int .i64 (z : Nat) := hf.1
        have e1 : ev (.tmp 44) = .int .i64 (z : Nat) := hf.2.1
        exact OpOk.run (v := .bool false) (W' := X) (by simp [execOp, e0, e1, hb.1, go_sem]) ⟨rfl, Stay.refl _⟩
      · intro ev X hT hb hk hf
        have e0 : ev (.tmp 45) = .bool false := hf.1
        exact OpOk.move rfl e0 ⟨rfl, Stay.refl _⟩
      · intro ev X hT hb hk hf
        refine ⟨false, hf.1, fun _ => ?_, fun h => (h rfl).elim⟩
        have e0 : ev (.tmp 6) = .slice b1 g.length c1 := hk.1
        exact OpOk.move rfl e0 ⟨rfl, Stay.refl _⟩
      · intro ev X hT hb hk hf
        refine ⟨false, hf.2.1, fun _ => ?_, fun h => (h rfl).elim⟩
        have e0 : ev (.tmp 47) = .slice b1 g.length c1 := hf.1
        exact OpOk.convert rfl e0 (run_string_of hu hu8 (Hl1.out.below hT) _ hstr) ⟨rfl, Stay.refl _⟩
      · intro ev X hT hb hk hf
        refine ⟨false, hf.1, fun _ => ?_, fun h => (h rfl).elim⟩
        have e0 : ev (.tmp 8) = .slice b2 g.length c2 := hk.1
        exact OpOk.move rfl e0 ⟨rfl, Stay.refl _⟩
      · intro ev X hT hb hk hf
        refine ⟨false, hf.2.1, fun _ => ?_, fun h => (h rfl).elim⟩
        have e0 : ev (.tmp 49) = .slice b2 g.length c2 := hf.1
        exact OpOk.convert rfl e0 (run_string_of hu hu8 (Hl2.out.below hT) _ hstr) ⟨rfl, Stay.refl _⟩
      · intro ev X hT hb hk hf
        refine ⟨false, hf.2.2.1, fun _ => ?_, fun h => (h rfl).elim⟩
        have e0 : ev (.tmp 48) = .string (strOf g) := hf.1
        have e1 : ev (.tmp 50) = .string (strOf g) := hf.2.1
        exact OpOk.run (v := .bool false) (W' := X) (by simp [execOp, e0, e1, hb.1, go_sem]) ⟨rfl, Stay.refl _⟩
      · intro ev X hT hb hk hf
        have e0 : ev (.tmp 46) = .bool false := hf.1
        have e1 : ev (.tmp 51) = .bool false := hf.2.1
        exact OpOk.run (v := .bool false) (W' := X) (by simp [execOp, e0, e1, hb, hb.1, hb.2.1, hb.2.2, go_sem]) ⟨rfl, Stay.refl _⟩
      · intro ev X hT hb hk hf
        have e0 : ev (.tmp 52) = .bool false := hf.1
        exact OpOk.move rfl e0 ⟨rfl, Stay.refl _⟩
      · intro ev X hT hb hk hf
        refine ⟨false, hf.1, fun _ => ?_, fun h => (h rfl).elim⟩
        have e0 : ev (.tmp 2) = .pointer (some ⟨w.heap.size, 0, Option.none⟩) := hk.1
        exact OpOk.load_row _ _ rfl _ e0 _ (recCells s (.slice ia s.init.length ic)) (0, 0) _ ((hT.block _ (Array.getElem?_eq_some_iff.1 GR.out).1).trans GR.out) hur rfl hsr ⟨rfl, Stay.refl _⟩
      · intro ev X hT hb hk hf
        refine ⟨false, hf.2.1, fun _ => ?_, fun h => (h rfl).elim⟩
        have e0 : ev (.tmp 54) = .agg (recCells s (.slice ia s.init.length ic)) := hf.1
        refine OpOk.enters (f := 12) (args := #[.agg (recCells s (.slice ia s.init.length ic))]) (W' := X) (by simp [execOp, resolve, invoke, e0, hb.2.1, go_sem]) ((right_any s _ X Hok.out (Hiv.out.below hT)).mono ?_)
        rintro e X2 ⟨rfl, h2⟩
        exact ⟨_, rfl, rfl, h2⟩
      · intro ev X hT hb hk hf
        refine ⟨false, hf.1, fun _ => ?_, fun h => (h rfl).elim⟩
        have e0 : ev (.tmp 2) = .pointer (some ⟨w.heap.size, 0, Option.none⟩) := hk.1
        exact OpOk.load_row _ _ rfl _ e0 _ (recCells s (.slice ia s.init.length ic)) (0, 0) _ ((hT.block _ (Array.getElem?_eq_some_iff.1 GR.out).1).trans GR.out) hur rfl hsr ⟨rfl, Stay.refl _⟩
      · intro ev X hT hb hk hf
        refine ⟨false, hf.2.2.1, fun _ => ?_, fun h => (h rfl).elim⟩
        have e0 : ev (.tmp 56) = .agg (recCells s (.slice ia s.init.length ic)) := hf.1
        refine OpOk.enters (f := 11) (args := #[.agg (recCells s (.slice ia s.init.length ic))]) (W' := X) (by simp [execOp, resolve, invoke, e0, hb.2.1, go_sem]) ((of_any s _ _ _ X).mono ?_)
        rintro e X2 ⟨rfl, h2⟩
        exact ⟨_, rfl, rfl, h2⟩
      · intro ev X hT hb hk hf
        refine ⟨false, hf.2.2.1, fun _ => ?_, fun h => (h rfl).elim⟩
        have e0 : ev (.tmp 57) = .agg (refCells s (.slice ia s.init.length ic)) := hf.1
        refine OpOk.enters (f := 13) (args := #[.agg (refCells s (.slice ia s.init.length ic))]) (W' := X) (by simp [execOp, resolve, invoke, e0, hb.2.1, go_sem]) ((rright_any s _ X Hok.out (Hiv.out.below hT)).mono ?_)
        rintro e X2 ⟨rfl, h2⟩
        exact ⟨_, rfl, rfl, h2⟩
      · intro ev X hT hb hk hf
        refine ⟨false, hf.2.2.1, fun _ => ?_, fun h => (h rfl).elim⟩
        have e0 : ev (.tmp 55) = .bool s.right := hf.1
        have e1 : ev (.tmp 58) = .bool s.right := hf.2.1
        exact OpOk.run (v := .bool false) (W' := X) (by simp [execOp, e0, e1, hb.1, go_sem]) ⟨rfl, Stay.refl _⟩
      · intro ev X hT hb hk hf
        have e0 : ev (.tmp 53) = .bool false := hf.1
        have e1 : ev (.tmp 59) = .bool false := hf.2.1
        exact OpOk.run (v := .bool false) (W' := X) (by simp [execOp, e0, e1, hb, hb.1, hb.2.1, hb.2.2, go_sem]) ⟨rfl, Stay.refl _⟩
      · intro ev X hT hb hk hf
        have e0 : ev (.tmp 60) = .bool false := hf.1
        exact OpOk.move rfl e0 ⟨rfl, Stay.refl _⟩
      · intro ev X hT hb hk hf
        refine ⟨false, hf.1, fun _ => ?_, fun h => (h rfl).elim⟩
        have e0 : ev (.tmp 5) = .pointer (some ⟨w2.heap.size, 0, Option.none⟩) := hk.1
        exact OpOk.load_row _ _ rfl _ e0 _ (recCells s (.slice oa s.init.length oc)) (0, 0) _ ((hT.block _ (Array.getElem?_eq_some_iff.1 G5.out).1).trans G5.out) hur rfl hsr ⟨rfl, Stay.refl _⟩
      · intro ev X hT hb hk hf
        refine ⟨false, hf.1, fun _ => ?_, fun h => (h rfl).elim⟩
        have e0 : ev (.tmp 2) = .pointer (some ⟨w.heap.size, 0, Option.none⟩) := hk.1
        exact OpOk.load_row _ _ rfl _ e0 _ (recCells s (.slice ia s.init.length ic)) (0, 0) _ ((hT.block _ (Array.getElem?_eq_some_iff.1 GR.out).1).trans GR.out) hur rfl hsr ⟨rfl, Stay.refl _⟩
      · intro ev X hT hb hk hf
        refine ⟨false, hf.2.2.1, fun _ => ?_, fun h => (h rfl).elim⟩
        have e0 : ev (.tmp 62) = .agg (recCells s (.slice oa s.init.length oc)) := hf.1
        have e1 : ev (.tmp 63) = .agg (recCells s (.slice ia s.init.length ic)) := hf.2.1
        refine OpOk.enters (f := 14) (args := #[.agg (recCells s (.slice oa s.init.length oc)), .agg (recCells s (.slice ia s.init.length ic))]) (W' := X) (by simp [execOp, resolve, invoke, e0, e1, hb.2.1, go_sem]) ((recsame_any s _ _ X (Hov.out.below hT) (Hiv.out.below hT)).mono ?_)
        rintro e X2 ⟨rfl, h2⟩
        exact ⟨_, rfl, rfl, h2⟩
      · intro ev X hT hb hk hf
        refine ⟨false, hf.2.1, fun _ => ?_, fun h => (h rfl).elim⟩
        have e0 : ev (.tmp 64) = .bool true := hf.1
        exact OpOk.run (v := .bool false) (W' := X) (by simp [execOp, e0, hb.1, go_sem]) ⟨rfl, Stay.refl _⟩
      · intro ev X hT hb hk hf
        have e0 : ev (.tmp 61) = .bool false := hf.1
        have e1 : ev (.tmp 65) = .bool false := hf.2.1
        exact OpOk.run (v := .bool false) (W' := X) (by simp [execOp, e0, e1, hb, hb.1, hb.2.1, hb.2.2, go_sem]) ⟨rfl, Stay.refl _⟩
    case rest =>
      intro X hT
      rintro v - v - v - v - v - v - v - v - v - v - v - v - v - v - v - v - v - v - v - v - v - v - v - _ rfl
      have H8 := hide (H7.out.below hT)
      have Hs8 := hide (Hs7.out.trans (Str.below hT))
      clear hT H7 Hs7 Hl1 Hl2 G5 GR Hov Hiv
      go_wp2
      refine Rest.done ?_
      cases hr : s.right with
      | false =>
        have hz1 : z = 1 := by have := Hz.out; rw [hr] at this; simpa using this
        subst hz1
        clear hr Hz Hg
        go_wp2_with fail
        go_ret
        exact ⟨rfl, all_below H8.out.right.right.right.right.right Hs8.out⟩
      | true =>
        have hz0 : z = 0 := by have := Hz.out; rw [hr] at this; simpa using this
        have hg0 : g = recBytes s := by have := Hg.out; rw [hr] at this; simpa using this
        subst hz0 hg0
        have Hr := hide hr
        have h128 : s.init.length ≤ 128 := by simp only [RecS.right, decide_eq_true_eq] at hr; omega
        clear hr Hz Hg
        have hlo := recBytes_len s h128
        have hGot := recGot_bytes s Hok.out Hr.out
        have hErr := recErr_bytes s Hok.out Hr.out
        have h8 := H8.out.right
        have HT := hide (recErr_turned s h128)
        have Hck := hide (show (recBytes s).drop 156 = wordB (chkN (recHead s)) from List.drop_left' (recHead_len s h128))
        clear H8
        generalize recBytes s = l at *
        have hP := recparse_any _ l X (own_bytes h8) (by omega)
        unfold ParseEnd at hP
        rw [hGot, hErr, hlo] at hP
        unfold ownR at h8
        rw [hlo] at h8 ⊢
        obtain ⟨og, oc1, e1, hoc, hoc2⟩ := own_block h8 (by omega)
        simp only [Value.slice.injEq] at e1
        obtain ⟨rfl, _, rfl⟩ := e1
        have Hlo := hide hlo
        have H8 := hide h8
        have HGot := hide hGot
        unfold maxLen at hoc2
        clear hlo hGot hErr h8
        go_wp2_with fail
        refine hP.mono ?_
        clear hP
        rintro e w9 ⟨iv2, rfl, hiv2, hs9⟩
        have h9 := on_all_to hiv2 H8.out
        obtain ⟨a9, c9, rfl, _, _, _, _⟩ := own_value hiv2
        have Hs9 := hide (Hs8.out.trans hs9)
        clear hiv2 hs9
        have hr9 := heap_alloc_new w9 (.cells zc 25)
        have h10 := (h9.alloc (.cells zc 25)).setRow (recCells s (.slice a9 s.init.length c9))
        have hs10 := (Hs9.out.alloc (.cells zc 25)).setRow w9.heap.size (recCells s (.slice a9 s.init.length c9))
        clear h9 Hs9
        generalize hW10 : (w9.alloc (.cells zc 25)).setRow w9.heap.size (recCells s (.slice a9 s.init.length c9)) = w10 at *
        have HW10 := hide hW10
        clear hW10
        have Hbl := hide ((own_bytes h10.right.right).below (alloc1 (o := .cells #[] 5)))
        have Hown := hide (own_new 5 1 0 [] h10 rfl (by decide))
        have Hs10 := hide (hs10.alloc (.cells #[] 5))
        obtain ⟨k, hk, hkl⟩ := uint_mod bit 1280 (by omega) (by omega)
        clear h10 hs10 H8 Hs8
        go_wp2_with (first
          | (refine wpList_store_row rfl _ _ _ rfl w9.heap.size (recCells s _) rfl rfl _ _ hr9 hsr (zc_size _ _) (recCells_one _ _ _ _) ?_; rw [HW10.out])
          | (at_builtin; refine wpList_append_bytes (F := (blk w9.heap.size (.cells (recCells s (.slice a9 s.init.length c9)) 25 (0, 0)) * (ownR (.slice a9 s.init.length c9) s.init * (own 5 1 (.slice (some ⟨og, 0, Option.none⟩) 160 c1) 160 (vbs l) * (blk w2.heap.size (.cells (recCells s (.slice oa s.init.length oc)) 25 (0, 0)) * (own 5 1 (.slice oa s.init.length oc) s.init.length (vbs s.init) * (blk w.heap.size (.cells (recCells s (.slice ia s.init.length ic)) 25 (0, 0)) * all w))))))) rfl _ _ 23 rfl 5 hu infoR _ [] l rfl Hown.out _ rfl Hbl.out (by have := Hlo.out; simp; omega) ?_; intro v w11 ho hs; rw [List.nil_append, Hlo.out] at ho; obtain ⟨dg, dc, rfl, hdc, hdc2⟩ := own_block ho (by omega); have H11 := hide ho; have Hs11 := hide (Hs10.out.trans hs); clear ho hs hr9 Hown Hbl))
        unfold maxLen at hdc2
        have hkn : k < 1280 := by omega
        have hk8 : k / 8 < 160 := by omega
        have hm8 : k % 8 < 8 := Nat.mod_lt _ (by decide)
        have g1 := vbs_get l (k / 8) (by rw [Hlo.out]; exact hk8)
        have hgx : l[k / 8]'(by rw [Hlo.out]; exact hk8) = l.getD (k / 8) 0 := by rw [List.getD_eq_getElem?_getD, List.getElem?_eq_getElem (by rw [Hlo.out]; exact hk8)]; rfl
        rw [hgx] at g1
        generalize hx : l.getD (k / 8) 0 = x at *
        have Hx := hide hx
        have Cd : Hid (∀ X, Stay w11 X → X.cell? ⟨dg, k / 8, Option.none⟩ = some (vb x)) := hide fun X hT => own_cell (H11.out.below hT) _ _ g1
        have hxl := UInt8.toNat_lt x
        clear hgx g1 hx hk
        have hpw : 2 ^ (k % 8) < 256 := Nat.lt_of_lt_of_le (Nat.pow_lt_pow_right (by decide) hm8) (by decide)
        have hxp : x.toNat ^^^ 2 ^ (k % 8) < 256 := Nat.xor_lt_two_pow (n := 8) (by omega) (by omega)
        have q1 : IntKind.i64.wrap ((k : Int) / 8) = (k : Int) / 8 := IntWalk.i64_in _ (by omega)
        have q2 : (0 : Int) ≤ (k : Int) / 8 := by omega
        have q3 : (k : Int) / 8 < 160 := by omega
        have q4 : ((k : Int) / 8).toNat = k / 8 := by omega
        have q5 : (k : Int).tmod 8 = (k : Int) % 8 := Int.tmod_eq_emod_of_nonneg (by omega)
        have q7 : ((k : Int) % 8).toNat = k % 8 := by omega
        have q8 : IntKind.u8.wrap (2 ^ (k % 8)) = 2 ^ (k % 8) := by
          rw [show ((2 : Int) ^ (k % 8)) = ((2 ^ (k % 8) : Nat) : Int) by push_cast; rfl]
          exact IntWalk.u8_in _ ⟨Int.natCast_nonneg _, by have h := Int.ofNat_le.2 (Nat.le_of_lt_succ hpw); exact h⟩
        have q6 : bits .xor .u8 ((x.toNat : Nat) : Int) (2 ^ (k % 8)) = ((x.toNat ^^^ 2 ^ (k % 8) : Nat) : Int) := by
          rw [show ((2 : Int) ^ (k % 8)) = ((2 ^ (k % 8) : Nat) : Int) by push_cast; rfl, u8_xor_nat _ _ hxl hpw]
        clear Hr h128
        refine wp_region_tail 10 [isV (.slice (some ⟨dg, 0, Option.none⟩) 160 dc), isV (.int .i64 (k : Nat)), isV (.int .i64 ((k / 8 : Nat) : Int)), isV (.pointer (some ⟨dg, k / 8, Option.none⟩)), isV (vb x), isV (.int .i64 (k : Nat)), isV (.int .i64 ((k % 8 : Nat) : Int)), isV (.int .u8 ((2 ^ (k % 8) : Nat) : Int)), isV (.int .u8 ((x.toNat ^^^ 2 ^ (k % 8) : Nat) : Int)), isV (.pointer (some ⟨dg, k / 8, Option.none⟩))]
          (by simp only [List.take_succ_cons, List.take_zero]; rfl) (by simp only [List.drop_succ_cons, List.drop_zero]; rfl) (by kernel_rfl) (by kernel_rfl) (by kernel_rfl) (by decide) rfl ?keep ?todo ?rest
        case keep => exact ⟨Keep.isV _, Keep.isV _, Keep.isV _, Keep.isV _, Keep.isV _, Keep.isV _, Keep.isV _, Keep.isV _, Keep.isV _, Keep.isV _, trivial⟩
        case todo =>
          refine ⟨?_, ?_, ?_, ?_, ?_, ?_, ?_, ?_, ?_, ?_, trivial⟩
          · intro ev X hT hb hk hf
            have e0 : ev (.tmp 13) = .slice (some ⟨dg, 0, Option.none⟩) 160 dc := hk.1
            exact OpOk.move rfl e0 ⟨rfl, Stay.refl _⟩
          · intro ev X hT hb hk hf
            have e0 : ev (.tmp 12) = .int .i64 (k : Nat) := hk.1
            exact OpOk.move rfl e0 ⟨rfl, Stay.refl _⟩
          · intro ev X hT hb hk hf
            have e0 : ev (.tmp 82) = .int .i64 (k : Nat) := hf.1
            exact OpOk.run (v := .int .i64 ((k / 8 : Nat) : Int)) (W' := X) (by simp [execOp, e0, hb.1, q1, q2, q3, q4, q5, q6, go_sem]) ⟨rfl, Stay.refl _⟩
          · intro ev X hT hb hk hf
            have e0 : ev (.tmp 81) = .slice (some ⟨dg, 0, Option.none⟩) 160 dc := hf.1
            have e1 : ev (.tmp 83) = .int .i64 ((k / 8 : Nat) : Int) := hf.2.1
            exact OpOk.run (v := .pointer (some ⟨dg, k / 8, Option.none⟩)) (W' := X) (by simp [execOp, e0, e1, hb.1, q1, q2, q3, q4, q5, q6, go_sem]) ⟨rfl, Stay.refl _⟩
          · intro ev X hT hb hk hf
            have e0 : ev (.tmp 84) = .pointer (some ⟨dg, k / 8, Option.none⟩) := hf.1
            have cW := Cd.out X hT
            exact OpOk.run (v := vb x) (W' := X) (by simp [execOp, e0, cW, go_sem]) ⟨rfl, Stay.refl _⟩
          · intro ev X hT hb hk hf
            have e0 : ev (.tmp 12) = .int .i64 (k : Nat) := hk.1
            exact OpOk.move rfl e0 ⟨rfl, Stay.refl _⟩
          · intro ev X hT hb hk hf
            have e0 : ev (.tmp 86) = .int .i64 (k : Nat) := hf.1
            exact OpOk.run (v := .int .i64 ((k % 8 : Nat) : Int)) (W' := X) (by simp [execOp, e0, hb.1, q1, q2, q3, q4, q5, q6, go_sem]) ⟨rfl, Stay.refl _⟩
          · intro ev X hT hb hk hf
            have e0 : ev (.tmp 87) = .int .i64 ((k % 8 : Nat) : Int) := hf.1
            exact OpOk.run (v := .int .u8 ((2 ^ (k % 8) : Nat) : Int)) (W' := X) (by simp [execOp, e0, hb.1, q7, q8, go_sem]) ⟨rfl, Stay.refl _⟩
          · intro ev X hT hb hk hf
            have e0 : ev (.tmp 85) = vb x := hf.1
            have e1 : ev (.tmp 88) = .int .u8 ((2 ^ (k % 8) : Nat) : Int) := hf.2.1
            exact OpOk.run (v := .int .u8 ((x.toNat ^^^ 2 ^ (k % 8) : Nat) : Int)) (W' := X) (by simp [execOp, e0, e1, hb.1, q1, q2, q3, q4, q5, q6, go_sem]) ⟨rfl, Stay.refl _⟩
          · intro ev X hT hb hk hf
            have e0 : ev (.tmp 81) = .slice (some ⟨dg, 0, Option.none⟩) 160 dc := hf.1
            have e1 : ev (.tmp 83) = .int .i64 ((k / 8 : Nat) : Int) := hf.2.1
            exact OpOk.run (v := .pointer (some ⟨dg, k / 8, Option.none⟩)) (W' := X) (by simp [execOp, e0, e1, hb.1, q1, q2, q3, q4, q5, q6, go_sem]) ⟨rfl, Stay.refl _⟩
        case rest =>
          intro X2 hT
          rintro _ rfl _ rfl _ rfl _ rfl _ rfl _ rfl _ rfl _ rfl _ rfl _ rfl
          have hd := H11.out.below hT
          have Hs12 := hide ((Hs11.out.trans (Str.below hT)).setCell ⟨dg, k / 8, Option.none⟩ (vb (UInt8.ofNat (x.toNat ^^^ 2 ^ (k % 8)))))
          have fr := own_free hd (k / 8)
          have cc := Cd.out X2 hT
          have e5 : (UInt8.ofNat (x.toNat ^^^ 2 ^ (k % 8))).toNat = x.toNat ^^^ 2 ^ (k % 8) := by
            generalize x.toNat ^^^ 2 ^ (k % 8) = z at hxp ⊢
            simp; omega
          have hst := own_store hd (j := k / 8) hk8 (vb (UInt8.ofNat (x.toNat ^^^ 2 ^ (k % 8))))
          have hturn := HT.out (k / 8) (k % 8) hk8 hm8 (UInt8.ofNat (x.toNat ^^^ 2 ^ (k % 8))) (by rw [e5, Hx.out])
          rw [vbs_set] at hst
          have hvb : vb (UInt8.ofNat (x.toNat ^^^ 2 ^ (k % 8))) = .int .u8 ((x.toNat ^^^ 2 ^ (k % 8) : Nat) : Int) := by simp only [vb, e5]
          rw [hvb] at hst Hs12
          have hld : (l.set (k / 8) (UInt8.ofNat (x.toNat ^^^ 2 ^ (k % 8)))).length = 160 := by rw [List.length_set, Hlo.out]
          clear hvb e5 hd H11 Hs11 HT hxp hpw hT Cd Hx
          generalize l.set (k / 8) (UInt8.ofNat (x.toNat ^^^ 2 ^ (k % 8))) = d at *
          generalize x.toNat ^^^ 2 ^ (k % 8) = y at *
          have hP := recparse_any _ d _ (own_bytes hst) (by omega)
          have Hst := hide hst
          have Hld := hide hld
          have Htu := hide hturn
          clear hst hld hturn
          go_wp2
          refine Rest.done ?_
          go_wp2_with fail
          refine hP.mono ?_
          clear hP fr cc
          rintro e w13 ⟨iv3, rfl, hiv3, hs13⟩
          have h13 := on_all_to hiv3 Hst.out
          obtain ⟨a13, c13, rfl, _, _, _, _⟩ := own_value hiv3
          have hr13 := heap_alloc_new w13 (.cells zc 25)
          have h14 := (h13.alloc (.cells zc 25)).setRow (recCells (recGot d) (.slice a13 (recGot d).init.length c13))
          have hs14 := ((Hs12.out.trans hs13).alloc (.cells zc 25)).setRow w13.heap.size (recCells (recGot d) (.slice a13 (recGot d).init.length c13))
          clear h13 hs13 hiv3 Hst Hs12 q6 q8
          generalize hW14 : (w13.alloc (.cells zc 25)).setRow w13.heap.size (recCells (recGot d) (.slice a13 (recGot d).init.length c13)) = w14 at *
          have HW14 := hide hW14
          clear hW14
          have g9 := on_blk_mul h14.right.right.right
          have gR := on_blk_mul h14.right.right.right.right.right.right.right.right
          have HB14 := hide (all_below h14.right.right.right.right.right.right.right.right.right hs14)
          have hS := recsame_any s _ _ w14 (own_bytes h14.right.right.right.right) (Hb.out.below HB14.out)
          have hmid := (own_bytes (l := l) h14.right.right.right.right.right).mid 156 4 (by rw [Hlo.out]; decide)
          rw [Hck.out, Nat.zero_add] at hmid
          have ht4 : (wordB (chkN (recHead s))).take 4 = wordB (chkN (recHead s)) := rfl
          rw [ht4] at hmid
          obtain ⟨_, _, e1, _, _, hl4, _⟩ := hmid
          simp only [Value.slice.injEq] at e1
          obtain ⟨rfl, e4, rfl⟩ := e1
          clear e4
          have k1 := run_string_of (P := Try.prog) (w := w14) (c := c1 - 156) hu hu8 hl4 _ hstr
          rw [wordB_len] at k1
          have hc4 : (160 : Int) ≤ (c1 : Int) := by omega
          have hc5 : (156 : Int) ≤ (c1 : Int) := by omega
          have hc6 : c1 ≠ 156 := by omega
          clear h14 hs14 hl4 ht4 Hck
          have Htu2 : Hid (recErr d ≠ 0 ∨ chkN (recHead s) = 0) := Htu
          generalize recErr d = z2 at *
          generalize chkN (recHead s) = ck at *
          clear Htu
          by_cases hz2 : z2 = 0
          · obtain rfl : ck = 0 := by rcases Htu2.out with h | h; exact absurd hz2 h; exact h
            subst hz2
            have hw4 : wordB 0 = [0, 0, 0, 0] := rfl
            rw [hw4] at k1
            clear hw4
            go_wp2_with (first
              | (refine wpList_store_row rfl _ _ _ rfl w13.heap.size (recCells (recGot d) _) rfl rfl _ _ hr13 hsr (zc_size _ _) (recCells_one _ _ _ _) ?_; rw [HW14.out])
              | (refine wpList_load_row_g rfl _ _ rfl w9.heap.size rfl _ (recCells s _) _ _ g9 hur rfl hsr ?_)
              | (refine wpList_load_row_g rfl _ _ rfl w.heap.size rfl _ (recCells s _) _ _ gR hur rfl hsr ?_))
            refine hS.mono ?_
            clear hS
            rintro e w15 ⟨rfl, hb15⟩
            have HB15 := hide (HB14.out.trans (hb15.mono HB14.out.size))
            clear hb15
            go_wp2_with fail
            go_ret
            exact ⟨rfl, HB15.out⟩
          · have hzn : (((z2 : Nat) : Int) != 0) = true := by simp; omega
            clear hz2
            generalize wordB ck = l4 at *
            go_wp2_with (first
              | (refine wpList_store_row rfl _ _ _ rfl w13.heap.size (recCells (recGot d) _) rfl rfl _ _ hr13 hsr (zc_size _ _) (recCells_one _ _ _ _) ?_; rw [HW14.out])
              | (refine wpList_load_row_g rfl _ _ rfl w9.heap.size rfl _ (recCells s _) _ _ g9 hur rfl hsr ?_)
              | (refine wpList_load_row_g rfl _ _ rfl w.heap.size rfl _ (recCells s _) _ _ gR hur rfl hsr ?_))
            refine hS.mono ?_
            clear hS
            rintro e w15 ⟨rfl, hb15⟩
            have HB15 := hide (HB14.out.trans (hb15.mono HB14.out.size))
            clear hb15
            go_wp2_with fail
            go_ret
            exact ⟨rfl, HB15.out⟩
namespace lawRecordBytes
theorem own : ownKnob Try.prog.godebug = Option.none := by kernel_rfl
theorem laidOut : laidOutB Try.prog = true := by kernel_rfl
set_option maxRecDepth 100000 in
theorem lifted (os : Os) (started : os.Started) (H : Type) (enc : TypeId × Value → H) :
    ReturnsInHanded {} Try.checked os 3 .any (Rows.recordBytesSpec.pre6 enc Try.prog Try.f3 Rows.recordBytesRow.domain false) (Rows.recordBytesSpec.post enc Try.prog Try.f3 false true false false) := by
  refine returnsInHanded_of_change_sized (C := Try.checked) own started (by kernel_rfl) Try.func3
    (ChangeSpec.witness6 (enc := enc) (C := Try.checked) false ⟨#[], #[.agg #[.int .u32 0, .int .u32 0, .int .u32 0, .int .u32 0, .int .u8 0, .int .u32 0, .slice Option.none 0 0], .int .i64 0], []⟩ 8 (by kernel_rfl) (by kernel_rfl) (by kernel_rfl) (by kernel_rfl)) ?_
  intro W base args ds gs before hval0 hW hcnd hsz _
  have hval : ∀ (j : Nat) t v, Try.f3.params[j]? = some t → args[j]? = some v → Value.okWide Try.prog W .any base t v := hval0
  have hW' := hW
  obtain ⟨p, q, hA0, hV, rfl, hfz, hnd⟩ := hW
  have hA : DataW.TrodAll enc Try.prog W 0 (fun _ => true) true Try.f3.params.toList args.toList ds p := hA0
  rw [Try.params3] at hA hval
  obtain ⟨v0, vs0, d0, ds0, p0, q0, hargs, rfl, rfl, h0, r0⟩ := trodAll_cons hA
  obtain ⟨v1, vs1, d1, ds1, p1, q1, rfl, rfl, rfl, h1, r1⟩ := trodAll_cons r0
  obtain ⟨rfl, rfl, rfl⟩ := trodAll_nil r1
  obtain rfl : args = #[v0, v1] := by cases args; simp_all
  obtain ⟨rfl, rfl⟩ := trodVars_none hV
  have k0 := h0
  have lt0 : ∀ x ∈ p0, x.block < W.heap.size := by obtain ⟨m, hm⟩ := k0; exact DataW.trod_lt m _ _ _ hm
  obtain ⟨s0, iv0, rfl, nn0, b0⟩ := open_rec (hval 0 25 v0 rfl rfl) h0
  have k1 := h1
  have lt1 : ∀ x ∈ p1, x.block < W.heap.size := by obtain ⟨m, hm⟩ := k1; exact DataW.trod_lt m _ _ _ hm
  obtain ⟨a1, rfl, rfl, rfl, w1⟩ := open_int Try.underlying3 (hval 1 3 v1 rfl rfl) h1
  obtain ⟨l1, u1⟩ := wf_i64 w1
  clear hA0 hval0 hsz
  refine (walk_RecordBytes W s0 iv0 nn0 b0 a1 l1 u1).mono fun e W' ⟨he, bel⟩ => ?_
  subst he
  exact ⟨_, rfl, _, _, _, [], _, [], hW', trodAll_mk1 (shut_bool Try.underlying4 _), (trodAll_cons_mk (Below.trod laidOut (by kernel_rfl) (of_decide_eq_true (by kernel_rfl)) k0 bel lt0) (trodAll_cons_mk (shut_int Try.underlying3 w1) trodAll_mk0)), rfl, bel.frame _, fun h => by cases h⟩

theorem over : Rows.recordBytesRow.holds Try.pinned (OpenSpec.ofChange Rows.recordBytesSpec) :=
  OpenClaim.holds_of_wide 3 Try.f3 rfl rfl rfl rfl rfl rfl rfl ⟨rfl, rfl, rfl, rfl, rfl⟩ rfl rfl rfl rfl rfl (by kernel_rfl) Try.func3 (by kernel_rfl)
    (of_decide_eq_true (by kernel_rfl)) (by unfold Func.isWrapper; first | (rw [if_pos (by decide +kernel)]; kernel_rfl) | (rw [if_neg (by decide +kernel)]; exact ⟨rfl, rfl⟩))
    (fun os started H enc _ => lifted os started H enc)

theorem proved : Rows.RecordBytesSaid := over
end lawRecordBytes
end Go.Proofs.Ytdieaegajahdpaa
