/- settings: Save. -/
import Derived.Test.YtgmpmlneoiagdaaGreatDoorSet4
import Derived.Test.YtgmpmlneoiagdaaGreatDoorGRecB
namespace Go.Proofs.YtgmpmlneoiagdaaGreatDoor
open Go.ChangeShapes Go.WideShapes Go.ChangeAt Go.RowKit
set_option linter.unusedVariables false
set_option linter.unusedSimpArgs false

/-- how Save ends -/
def SaveEnd (p : Nat) (F : SP) (X : FlS × RecS × Nat) (w : World) (e : Ending) (w' : World) : Prop := ∃ iv, e = .returned (.tuple #[.agg (recCells X.2.1 iv), .int .i64 (X.2.2 : Nat)]) ∧ (ownR iv X.2.1.init * (Flash p X.1 * F)).on w' ∧ Str w w'
theorem rc_build0 (w : World) : (Instr.build 31 #[]).run Tryz.prog w = .ok (.agg (recCells zeroS nilV)) w := by kernel_rfl
theorem wpList_build_rc0 {ops : Array Oper} {rest : List Oper} {o : Oper} {a : Act} {w : World} {Q : Exit → Act → World → Prop} (hgd : o.guard = Option.none) (ho : o.op = .build 31 #[])
    (hk : wpList Tryz.prog ops Q rest (a.put o.dst (.agg (recCells zeroS nilV))) w) : wpList Tryz.prog ops Q (o :: rest) a w := by
  have hr : (execOp a.eval o).run Tryz.prog w = .ok (.value (.agg (recCells zeroS nilV))) w := by
    unfold execOp
    rw [ho]
    simp only [List.map_toArray, List.map_nil]
    rw [Sem.run_bind, rc_build0]
    rfl
  exact wpList_plain hgd fun _ hK => by
    unfold Oper.wp
    simp only [hr]
    exact hK _ _ hk
theorem rc_seq (r : RecS) (v : Value) (q : Nat) : (recCells r v).setIfInBounds 0 (.int .u32 ((q : Int) + 1)) = recCells { r with seq := q + 1 } v := by
  have h : ((q + 1 : Nat) : Int) = (q : Int) + 1 := by omega
  unfold recCells u32v
  simp only [h]
  rfl
theorem rc_init (r : RecS) (v v' : Value) : (recCells r v).setIfInBounds 6 v' = recCells r v' := rfl
theorem save_bad {s : FlS} {r : RecS} (h1 : s.load.2.2 ≠ 0) (h2 : s.load.2.2 ≠ 15) : s.save r = (s, zeroS, s.load.2.2) := by unfold FlS.save; rw [if_pos ⟨h1, h2⟩]
theorem save_last {s : FlS} {r : RecS} (h1 : s.load.2.2 = 0 ∨ s.load.2.2 = 15) (h2 : s.load.1.seq = 4294967295) : s.save r = (s, zeroS, 16) := by unfold FlS.save; rw [if_neg (by omega), if_pos h2]
theorem save_wrong {s : FlS} {r : RecS} (h1 : s.load.2.2 = 0 ∨ s.load.2.2 = 15) (h2 : s.load.1.seq ≠ 4294967295) (h3 : ({ r with seq := s.load.1.seq + 1 } : RecS).right = false) : s.save r = (s, zeroS, 1) := by unfold FlS.save; rw [if_neg (by omega), if_neg h2, if_pos h3]
theorem save_torn {s : FlS} {r : RecS} (h1 : s.load.2.2 = 0 ∨ s.load.2.2 = 15) (h2 : s.load.1.seq ≠ 4294967295) (h3 : ({ r with seq := s.load.1.seq + 1 } : RecS).right = true) (h4 : (s.write s.to (recBytes { r with seq := s.load.1.seq + 1 })).2 ≠ 0) :
    s.save r = ((s.write s.to (recBytes { r with seq := s.load.1.seq + 1 })).1, zeroS, (s.write s.to (recBytes { r with seq := s.load.1.seq + 1 })).2) := by unfold FlS.save; rw [if_neg (by omega), if_neg h2, if_neg (by simp [h3]), if_pos h4]
theorem save_done {s : FlS} {r : RecS} (h1 : s.load.2.2 = 0 ∨ s.load.2.2 = 15) (h2 : s.load.1.seq ≠ 4294967295) (h3 : ({ r with seq := s.load.1.seq + 1 } : RecS).right = true) (h4 : (s.write s.to (recBytes { r with seq := s.load.1.seq + 1 })).2 = 0) :
    s.save r = ((s.write s.to (recBytes { r with seq := s.load.1.seq + 1 })).1, { r with seq := s.load.1.seq + 1 }, 0) := by unfold FlS.save; rw [if_neg (by omega), if_neg h2, if_neg (by simp [h3]), if_neg (by simp [h4])]

set_option maxRecDepth 100000 in
set_option maxHeartbeats 32000000 in
theorem save_any (p : Nat) (s : FlS) (F : SP) (n : Nat) (fit : s.Fit n) (hn : n ≤ 1099500000000) (r : RecS) (iv : Value) (hr : r.Ok) (hrd : ∀ W, F.on W → IsBytes W iv r.init) (w : World) (h : (Flash p s * F).on w) :
    Calls Tryz.prog 8 #[fptr p, .agg (recCells r iv)] w (SaveEnd p F (s.save r) w) := by
  have hus := Tryz.underlying58
  have hur := Tryz.underlying31
  have hu8 := Tryz.underlying22
  have hz := rc_hz
  have hzs := st_hz
  obtain ⟨ai, ci, rfl, _, _, _, _⟩ := hrd w h.right
  have h0 := (h.alloc (.cells (recCells r (.slice ai r.init.length ci)) 31)).alloc (.cells (recCells zeroS nilV) 31)
  have s0 := ((Str.refl w).alloc (.cells (recCells r (.slice ai r.init.length ci)) 31)).alloc (.cells (recCells zeroS nilV) 31)
  simp only [World.size_alloc] at h0
  have hN := newest_any p s _ _ (show (Flash p s * (blk (w.heap.size + 1) (.cells (recCells zeroS nilV) 31 (0, 0)) * (blk w.heap.size (.cells (recCells r (.slice ai r.init.length ci)) 31 (0, 0)) * F))).on _ by
    rw [SP.mul_left_comm, SP.mul_left_comm (Flash p s)]; exact h0) fit.ok
  have H0 : Hid ((blk w.heap.size (.cells (recCells r (.slice ai r.init.length ci)) 31 (0, 0)) * (blk (w.heap.size + 1) (.cells (recCells zeroS nilV) 31 (0, 0)) * (Flash p s * F))).on _) := hide (by rw [SP.mul_left_comm] at h0; exact h0)
  have S0 := hide s0
  have HB1 := hide (fun h1 h2 => save_bad (s := s) (r := r) h1 h2)
  have HB2 := hide (fun h1 h2 => save_last (s := s) (r := r) h1 h2)
  have HB3 := hide (fun h1 h2 h3 => save_wrong (s := s) (r := r) h1 h2 h3)
  have HB4 := hide (fun h1 h2 h3 h4 => save_torn (s := s) (r := r) h1 h2 h3 h4)
  have HB5 := hide (fun h1 h2 h3 h4 => save_done (s := s) (r := r) h1 h2 h3 h4)
  have hto : s.to = if s.load.2.2 = 0 then 1 - s.load.2.1 else 0 := rfl
  have Hto := hide hto
  have hto1 := to_le s
  have hle := load_err s
  have hlp := load_page s
  have Hlo := hide (load_ok s)
  have Hfit := hide fit
  have Hrd := hide hrd
  have Hr := hide hr
  clear h h0 s0 hto fit hrd hr
  generalize s.save r = SV at *
  generalize s.to = to at *
  obtain ⟨⟨R, pg, er⟩, hR⟩ : ∃ x, x = s.load := ⟨_, rfl⟩
  rw [← hR] at hN HB1 HB2 HB3 HB4 HB5 Hto hle hlp Hlo
  clear hR
  simp only at HB1 HB2 HB3 HB4 HB5 Hto hle hlp Hlo
  go_enter Tryz.func8, Tryz.ntmps8
  go_wp2_with fail
  generalize (w.alloc (.cells (recCells r (.slice ai r.init.length ci)) 31)).alloc (.cells (recCells zeroS nilV) 31) = w0 at *
  refine hN.mono ?_
  clear hN
  rintro e w1 ⟨iv1, rfl, ho, hs⟩
  have HoS := hide (st_one (s := R) (own_slice ho) pg)
  have HsS := hide (st_info R iv1 pg)
  have h1 := ((on_all_to ho H0.out).alloc (.cells (stCells zeroS nilV 0) 58))
  have gN := on_blk_mul h1
  have h2 := h1.setRow (stCells R iv1 pg)
  have H2 : Hid ((blk w1.heap.size (.cells (stCells R iv1 pg) 58 (0, 0)) * (ownR iv1 R.init * (blk w.heap.size (.cells (recCells r (.slice ai r.init.length ci)) 31 (0, 0)) * (blk (w.heap.size + 1) (.cells (recCells zeroS nilV) 31 (0, 0)) * (Flash p s * F))))).on ((w1.alloc (.cells (stCells zeroS nilV 0) 58)).setRow w1.heap.size (stCells R iv1 pg))) := hide h2
  have S2 := hide (((S0.out.trans hs).alloc (.cells (stCells zeroS nilV 0) 58)).setRow w1.heap.size (stCells R iv1 pg))
  have HoZ := hide (rc_one (s := zeroS) (iv := nilV) ⟨_, _, _, rfl⟩)
  have HsZ := hide (rc_info zeroS nilV)
  clear ho hs h1 h2 H0 S0
  have hstop : ∀ p : Prop, Hid p → p := fun _ h => h.out
  go_wp2_with (first
    | (refine wpList_store_row rfl _ _ _ rfl w1.heap.size (stCells R iv1 pg) rfl rfl _ _ gN HsS.out rfl HoS.out ?_; refine hstop _ ?_))
  refine hide ?_
  clear hstop gN
  generalize (w1.alloc (.cells (stCells zeroS nilV 0) 58)).setRow w1.heap.size (stCells R iv1 pg) = w2 at *
  generalize w1.heap.size = gS at *
  have c0 : w2.cell? ⟨gS, 0, Option.none⟩ = some (u32v R.seq) := cell_of_row w2 gS 0 _ _ _ (on_blk_mul H2.out)
  have c7 : w2.cell? ⟨gS, 7, Option.none⟩ = some (.int .i64 (pg : Int)) := cell_of_row w2 gS 7 _ _ _ (on_blk_mul H2.out)
  have gZ := on_blk_mul H2.out.right.right.right
  by_cases hbad : er ≠ 0 ∧ er ≠ 15
  · have hv := HB1.out hbad.1 hbad.2
    have HV := hide hv
    have e1 : (((er : Nat) : Int) != 0) = true := by simp only [bne_iff_ne, ne_eq]; omega
    have e2 : (((er : Nat) : Int) != 15) = true := by simp only [bne_iff_ne, ne_eq]; omega
    clear hbad hv c0 c7 HB1 HB2 HB3 HB4 HB5
    have h9 := H2.out.right.right
    rw [SP.mul_left_comm] at h9
    have H9 := hide (h9.setRow (recCells zeroS nilV)).right.right
    have S9 := hide (S2.out.setRow (w.heap.size + 1) (recCells zeroS nilV))
    clear h9
    go_wp2_with (first
      | (refine wpList_build_rc0 rfl rfl ?_)
      | (refine wpList_store_row rfl _ _ _ rfl (w.heap.size + 1) (recCells zeroS nilV) rfl rfl _ _ gZ HsZ.out rfl HoZ.out ?_))
    refine bodyPost_ret (v := .tuple #[.agg (recCells zeroS nilV), .int .i64 (er : Nat)]) (results_cell_row_tmp Tryz.results8 _ _ (w.heap.size + 1) _ (recCells zeroS nilV) (0, 0) _ rfl (setRow_heap_same _ _ _ _ _ _ gZ) hur rfl HsZ.out (.int .i64 (er : Nat)) rfl) rfl ?_
    exact ⟨nilV, by rw [HV.out]; first | done | rfl, by rw [HV.out]; exact own_nil _ _ H9.out, S9.out⟩
  · have hor : er = 0 ∨ er = 15 := by omega
    have Hor := hide hor
    clear hbad HB1
    rcases hor with rfl | rfl
    · rw [show ((0 : Nat) : Int) = 0 from rfl]
      by_cases hq : R.seq = 4294967295
      · have hv := HB2.out Hor.out hq
        have HV := hide hv
        have e2 : (((R.seq : Nat) : Int) == 4294967295) = true := by rw [hq]; rfl
        clear hv hq c7 HB2 HB3 HB4 HB5
        have h9 := H2.out.right.right
        rw [SP.mul_left_comm] at h9
        have H9 := hide (h9.setRow (recCells zeroS nilV)).right.right
        have S9 := hide (S2.out.setRow (w.heap.size + 1) (recCells zeroS nilV))
        clear h9
        go_wp2_with (first
          | (refine wpList_build_rc0 rfl rfl ?_)
          | (refine wpList_store_row rfl _ _ _ rfl (w.heap.size + 1) (recCells zeroS nilV) rfl rfl _ _ gZ HsZ.out rfl HoZ.out ?_))
        refine bodyPost_ret (v := .tuple #[.agg (recCells zeroS nilV), .int .i64 16]) (results_cell_row_tmp Tryz.results8 _ _ (w.heap.size + 1) _ (recCells zeroS nilV) (0, 0) _ rfl (setRow_heap_same _ _ _ _ _ _ gZ) hur rfl HsZ.out (.int .i64 16) rfl) rfl ?_
        exact ⟨nilV, by rw [HV.out]; first | done | rfl, by rw [HV.out]; exact own_nil _ _ H9.out, S9.out⟩
      · have hq2 : R.seq < 4294967295 := by have := Hlo.out.seq; omega
        have HC3 := hide (HB3.out Hor.out hq)
        have HC4 := hide (HB4.out Hor.out hq)
        have HC5 := hide (HB5.out Hor.out hq)
        have e2 : (((R.seq : Nat) : Int) == 4294967295) = false := by simp only [beq_eq_false_iff_ne, ne_eq]; omega
        have c1 := cell_of_row w2 w.heap.size 0 _ _ _ (on_blk_mul H2.out.right.right)
        have fr := frozen_of_row w2 w.heap.size 0 _ _ (on_blk_mul H2.out.right.right)
        clear hq HB2 HB3 HB4 HB5
        obtain ⟨r1, hr1⟩ : ∃ x : RecS, x = { r with seq := R.seq + 1 } := ⟨_, rfl⟩
        have hi1 : r1.init = r.init := by rw [hr1]
        have ok1 : r1.Ok := by rw [hr1]; exact ⟨by show R.seq + 1 < 4294967296; omega, Hr.out.floor, Hr.out.bytes, Hr.out.sum, Hr.out.done, Hr.out.init⟩
        have h9 := H2.out
        rw [SP.mul_left_comm (ownR iv1 R.init), SP.mul_left_comm (blk gS _)] at h9
        have h3 := h9.setCell (i := 0) (.int .u32 ((R.seq : Int) + 1))
        rw [rc_seq, ← hr1] at h3
        rw [← hr1] at HC3 HC4 HC5
        have g3 := on_blk_mul h3
        have H3 := hide h3
        have S3 := hide (S2.out.setCell ⟨w.heap.size, 0, Option.none⟩ (.int .u32 ((R.seq : Int) + 1)))
        have HsR1 := hide (rc_info r1 (.slice ai r.init.length ci))
        have hE := rencode_any r1 (.slice ai r.init.length ci) _ ok1 (by rw [hi1]; exact Hrd.out _ h3.right.right.right.right.right)
        have Hi1 := hide hi1
        clear h9 h3 hr1 hi1
        go_wp2_with (first
          | (refine wpList_load_row rfl _ _ rfl w.heap.size rfl _ (recCells r1 (.slice ai r.init.length ci)) _ _ g3 hur rfl HsR1.out ?_))
        generalize w2.setCell ⟨w.heap.size, 0, Option.none⟩ (.int .u32 ((R.seq : Int) + 1)) = w3 at *
        clear H2 S2 gZ g3 c0 c7 c1 fr
        refine hE.mono ?_
        clear hE
        rintro e w4 hEnd
        obtain ⟨out, rfl, ho, hs⟩ := hEnd.both
        have H4 := hide (on_all_to ho H3.out)
        have S4 := hide (S3.out.trans hs)
        have gZ := on_blk_mul H4.out.right.right.right.right
        clear ho hs H3 S3 hEnd
        by_cases hright : r1.right = true
        case neg =>
          have hv := HC3.out (by simp [hright])
          have HV := hide hv
          have hee : encErr r1 = 1 := by unfold encErr; rw [if_neg hright]
          rw [hee, show ((1 : Nat) : Int) = 1 from rfl]
          have h9 := H4.out.right.right.right
          rw [SP.mul_left_comm] at h9
          have H9 := hide (h9.setRow (recCells zeroS nilV)).right.right
          have S9 := hide (S4.out.setRow (w.heap.size + 1) (recCells zeroS nilV))
          obtain ⟨oa, oc, rfl, _, _, _, _⟩ := own_value H4.out
          clear h9 hright hv HC3 HC4 HC5 hee
          go_wp2_with (first
            | (refine wpList_build_rc0 rfl rfl ?_)
            | (refine wpList_store_row rfl _ _ _ rfl (w.heap.size + 1) (recCells zeroS nilV) rfl rfl _ _ gZ HsZ.out rfl HoZ.out ?_))
          refine bodyPost_ret (v := .tuple #[.agg (recCells zeroS nilV), .int .i64 1]) (results_cell_row_tmp Tryz.results8 _ _ (w.heap.size + 1) _ (recCells zeroS nilV) (0, 0) _ rfl (setRow_heap_same _ _ _ _ _ _ gZ) hur rfl HsZ.out (.int .i64 1) rfl) rfl ?_
          exact ⟨nilV, by rw [HV.out]; first | done | rfl, by rw [HV.out]; exact own_nil _ _ H9.out, S9.out⟩
        case pos =>
          have HD4 := hide (HC4.out hright)
          have HD5 := hide (HC5.out hright)
          have hee : encErr r1 = 0 := by unfold encErr; rw [if_pos hright]
          have heg : encGot r1 = recBytes r1 := by unfold encGot; rw [if_pos hright]
          rw [hee, show ((0 : Nat) : Int) = 0 from rfl]
          rw [heg] at H4
          obtain ⟨oa, oc, rfl, _, _, _, _⟩ := own_value H4.out
          have hlen : (recBytes r1).length = 160 := recBytes_len r1 (by
            have hh := hright
            simp only [RecS.right, decide_eq_true_eq] at hh
            exact hh.2.2.2.1)
          have h9 := H4.out
          rw [show ∀ A B C D E X Y : SP, A * (B * (C * (D * (E * (X * Y))))) = X * (A * (B * (C * (D * (E * Y))))) from fun A B C D E X Y => by ac_rfl] at h9
          have HW := hide (write_any p s _ n Hfit.out (by omega) to hto1 _ (recBytes r1) (by rw [hlen]) (by rw [hlen]; decide) (fun W hW => own_bytes hW) w4 h9)
          rw [hlen] at HW ⊢
          have hpg : (1 : Int) - (pg : Int) = (to : Int) := by have h := Hto.out; simp at h; omega
          rw [← hpg] at HW
          clear hpg
          obtain ⟨⟨st, er2⟩, hwr⟩ : ∃ x, x = s.write to (recBytes r1) := ⟨_, rfl⟩
          rw [← hwr] at HW HD4 HD5
          clear hwr hright hee heg hlen HC3 HC4 HC5 gZ h9 Hto
          generalize recBytes r1 = rb at *
          by_cases h0 : er2 = 0
          · have hv := HD5.out h0
            have HV := hide hv
            subst h0
            clear hv HD4 HD5
            go_wp2_with fail
            refine HW.out.mono ?_
            clear HW
            rintro e w5 ⟨rfl, h5, s5⟩
            have H5 := hide h5
            have S5 := hide (S4.out.trans s5)
            rw [show ((0 : Nat) : Int) = 0 from rfl]
            have c6 := cell_of_row w5 w.heap.size 6 _ _ _ (on_blk_mul h5.right.right)
            have hib := Hrd.out w5 h5.right.right.right.right.right.right
            have Hib := hide hib
            clear h5 s5 hib H4 S4
            have hstop : ∀ p : Prop, Hid p → p := fun _ h => h.out
            go_wp2_with (at_builtin; refine wpList_append_bytes (F := all w5) rfl _ _ 22 rfl 5 hu8 infoByte _ [] r.init rfl (own_nil _ _ (on_all w5)) _ rfl Hib.out (by have := Hr.out.init; simp; omega) ?_; intro v2 w6 ho2 hs2; rw [List.nil_append] at ho2; obtain ⟨oa2, oc2, rfl, _, _, _, _⟩ := own_value ho2; have h6 := on_all_to ho2 H5.out; rw [show ∀ A X O B C D E Y : SP, A * (X * (O * (B * (C * (D * (E * Y)))))) = B * (A * (X * (O * (C * (D * (E * Y)))))) from fun A X O B C D E Y => by ac_rfl] at h6; have H6 := hide h6; have S6 := hide (S5.out.trans hs2); have c6b := cell_of_row w6 w.heap.size 6 _ _ _ (on_blk_mul h6); have fr := frozen_of_row w6 w.heap.size 6 _ _ (on_blk_mul h6); have h7 := h6.setCell (i := 6) (.slice oa2 r.init.length oc2); rw [rc_init] at h7; have H7 := hide h7; have S7 := hide (S6.out.setCell ⟨w.heap.size, 6, Option.none⟩ (.slice oa2 r.init.length oc2)); have g7 := on_blk_mul h7; have gZ := on_blk_mul h7.right.right.right.right.right.right; have HsR2 := hide (rc_info r1 (.slice oa2 r.init.length oc2)); have HoR2 := hide (rc_one (s := r1) (iv := .slice oa2 r.init.length oc2) ⟨_, _, _, rfl⟩); clear h6 h7 ho2 hs2; refine hstop _ ?_)
            refine hide ?_
            clear hstop
            have H8 := hide (show (ownR (.slice oa2 r.init.length oc2) r1.init * (Flash p st * F)).on _ from by
              rw [Hi1.out]
              have h9 := (show ∀ B A X O C D E Y : SP, ∀ W : World, (B * (A * (X * (O * (C * (D * (E * Y))))))).on W → (E * (A * (X * Y))).on W from fun B A X O C D E Y W h => by
                rw [show B * (A * (X * (O * (C * (D * (E * Y)))))) = B * (O * (C * (D * (E * (A * (X * Y)))))) from by ac_rfl] at h
                exact h.right.right.right.right) _ _ _ _ _ _ _ _ _ H7.out
              exact (h9.setRow (recCells r1 (.slice oa2 r.init.length oc2))).right)
            have S8 := hide (S7.out.setRow (w.heap.size + 1) (recCells r1 (.slice oa2 r.init.length oc2)))
            clear H5 S5 H6 S6 H7 S7 c6
            go_wp2_with (first
              | (refine wpList_load_row rfl _ _ rfl w.heap.size rfl _ (recCells r1 (.slice oa2 r.init.length oc2)) _ _ g7 hur rfl HsR2.out ?_)
              | (refine wpList_store_row rfl _ _ _ rfl (w.heap.size + 1) (recCells r1 (.slice oa2 r.init.length oc2)) rfl rfl _ _ gZ HsR2.out rfl HoR2.out ?_))
            refine bodyPost_ret (v := .tuple #[.agg (recCells r1 (.slice oa2 r.init.length oc2)), .int .i64 0]) (results_cell_row_tmp Tryz.results8 _ _ (w.heap.size + 1) _ (recCells r1 (.slice oa2 r.init.length oc2)) (0, 0) _ rfl (setRow_heap_same _ _ _ _ _ _ gZ) hur rfl HsR2.out (.int .i64 0) rfl) rfl ?_
            exact ⟨_, by rw [HV.out]; first | done | rfl, by rw [HV.out]; exact H8.out, S8.out⟩
          · have hv := HD4.out h0
            have HV := hide hv
            have e3 : (((er2 : Nat) : Int) != 0) = true := by simp only [bne_iff_ne, ne_eq]; omega
            clear hv HD4 HD5 h0
            go_wp2_with fail
            refine HW.out.mono ?_
            clear HW
            rintro e w5 ⟨rfl, h5, s5⟩
            have H5 := hide h5
            have S5 := hide (S4.out.trans s5)
            have h9 := h5
            rw [show ∀ X O B C D E Y : SP, X * (O * (B * (C * (D * (E * Y))))) = E * (O * (B * (C * (D * (X * Y))))) from fun X O B C D E Y => by ac_rfl] at h9
            have gZ := on_blk_mul h9
            have H9 := hide (h9.setRow (recCells zeroS nilV)).right.right.right.right.right
            have S9 := hide (S5.out.setRow (w.heap.size + 1) (recCells zeroS nilV))
            clear h5 s5 h9 H4 S4
            go_wp2_with (first
              | (refine wpList_build_rc0 rfl rfl ?_)
              | (refine wpList_store_row rfl _ _ _ rfl (w.heap.size + 1) (recCells zeroS nilV) rfl rfl _ _ gZ HsZ.out rfl HoZ.out ?_))
            refine bodyPost_ret (v := .tuple #[.agg (recCells zeroS nilV), .int .i64 (er2 : Nat)]) (results_cell_row_tmp Tryz.results8 _ _ (w.heap.size + 1) _ (recCells zeroS nilV) (0, 0) _ rfl (setRow_heap_same _ _ _ _ _ _ gZ) hur rfl HsZ.out (.int .i64 (er2 : Nat)) rfl) rfl ?_
            exact ⟨nilV, by rw [HV.out]; first | done | rfl, by rw [HV.out]; exact own_nil _ _ H9.out, S9.out⟩
    · rw [show ((15 : Nat) : Int) = 15 from rfl]
      by_cases hq : R.seq = 4294967295
      · have hv := HB2.out Hor.out hq
        have HV := hide hv
        have e2 : (((R.seq : Nat) : Int) == 4294967295) = true := by rw [hq]; rfl
        clear hv hq c7 HB2 HB3 HB4 HB5
        have h9 := H2.out.right.right
        rw [SP.mul_left_comm] at h9
        have H9 := hide (h9.setRow (recCells zeroS nilV)).right.right
        have S9 := hide (S2.out.setRow (w.heap.size + 1) (recCells zeroS nilV))
        clear h9
        go_wp2_with (first
          | (refine wpList_build_rc0 rfl rfl ?_)
          | (refine wpList_store_row rfl _ _ _ rfl (w.heap.size + 1) (recCells zeroS nilV) rfl rfl _ _ gZ HsZ.out rfl HoZ.out ?_))
        refine bodyPost_ret (v := .tuple #[.agg (recCells zeroS nilV), .int .i64 16]) (results_cell_row_tmp Tryz.results8 _ _ (w.heap.size + 1) _ (recCells zeroS nilV) (0, 0) _ rfl (setRow_heap_same _ _ _ _ _ _ gZ) hur rfl HsZ.out (.int .i64 16) rfl) rfl ?_
        exact ⟨nilV, by rw [HV.out]; first | done | rfl, by rw [HV.out]; exact own_nil _ _ H9.out, S9.out⟩
      · have hq2 : R.seq < 4294967295 := by have := Hlo.out.seq; omega
        have HC3 := hide (HB3.out Hor.out hq)
        have HC4 := hide (HB4.out Hor.out hq)
        have HC5 := hide (HB5.out Hor.out hq)
        have e2 : (((R.seq : Nat) : Int) == 4294967295) = false := by simp only [beq_eq_false_iff_ne, ne_eq]; omega
        have c1 := cell_of_row w2 w.heap.size 0 _ _ _ (on_blk_mul H2.out.right.right)
        have fr := frozen_of_row w2 w.heap.size 0 _ _ (on_blk_mul H2.out.right.right)
        clear hq HB2 HB3 HB4 HB5
        obtain ⟨r1, hr1⟩ : ∃ x : RecS, x = { r with seq := R.seq + 1 } := ⟨_, rfl⟩
        have hi1 : r1.init = r.init := by rw [hr1]
        have ok1 : r1.Ok := by rw [hr1]; exact ⟨by show R.seq + 1 < 4294967296; omega, Hr.out.floor, Hr.out.bytes, Hr.out.sum, Hr.out.done, Hr.out.init⟩
        have h9 := H2.out
        rw [SP.mul_left_comm (ownR iv1 R.init), SP.mul_left_comm (blk gS _)] at h9
        have h3 := h9.setCell (i := 0) (.int .u32 ((R.seq : Int) + 1))
        rw [rc_seq, ← hr1] at h3
        rw [← hr1] at HC3 HC4 HC5
        have g3 := on_blk_mul h3
        have H3 := hide h3
        have S3 := hide (S2.out.setCell ⟨w.heap.size, 0, Option.none⟩ (.int .u32 ((R.seq : Int) + 1)))
        have HsR1 := hide (rc_info r1 (.slice ai r.init.length ci))
        have hE := rencode_any r1 (.slice ai r.init.length ci) _ ok1 (by rw [hi1]; exact Hrd.out _ h3.right.right.right.right.right)
        have Hi1 := hide hi1
        clear h9 h3 hr1 hi1
        go_wp2_with (first
          | (refine wpList_load_row rfl _ _ rfl w.heap.size rfl _ (recCells r1 (.slice ai r.init.length ci)) _ _ g3 hur rfl HsR1.out ?_))
        generalize w2.setCell ⟨w.heap.size, 0, Option.none⟩ (.int .u32 ((R.seq : Int) + 1)) = w3 at *
        clear H2 S2 gZ g3 c0 c7 c1 fr
        refine hE.mono ?_
        clear hE
        rintro e w4 hEnd
        obtain ⟨out, rfl, ho, hs⟩ := hEnd.both
        have H4 := hide (on_all_to ho H3.out)
        have S4 := hide (S3.out.trans hs)
        have gZ := on_blk_mul H4.out.right.right.right.right
        clear ho hs H3 S3 hEnd
        by_cases hright : r1.right = true
        case neg =>
          have hv := HC3.out (by simp [hright])
          have HV := hide hv
          have hee : encErr r1 = 1 := by unfold encErr; rw [if_neg hright]
          rw [hee, show ((1 : Nat) : Int) = 1 from rfl]
          have h9 := H4.out.right.right.right
          rw [SP.mul_left_comm] at h9
          have H9 := hide (h9.setRow (recCells zeroS nilV)).right.right
          have S9 := hide (S4.out.setRow (w.heap.size + 1) (recCells zeroS nilV))
          obtain ⟨oa, oc, rfl, _, _, _, _⟩ := own_value H4.out
          clear h9 hright hv HC3 HC4 HC5 hee
          go_wp2_with (first
            | (refine wpList_build_rc0 rfl rfl ?_)
            | (refine wpList_store_row rfl _ _ _ rfl (w.heap.size + 1) (recCells zeroS nilV) rfl rfl _ _ gZ HsZ.out rfl HoZ.out ?_))
          refine bodyPost_ret (v := .tuple #[.agg (recCells zeroS nilV), .int .i64 1]) (results_cell_row_tmp Tryz.results8 _ _ (w.heap.size + 1) _ (recCells zeroS nilV) (0, 0) _ rfl (setRow_heap_same _ _ _ _ _ _ gZ) hur rfl HsZ.out (.int .i64 1) rfl) rfl ?_
          exact ⟨nilV, by rw [HV.out]; first | done | rfl, by rw [HV.out]; exact own_nil _ _ H9.out, S9.out⟩
        case pos =>
          have HD4 := hide (HC4.out hright)
          have HD5 := hide (HC5.out hright)
          have hee : encErr r1 = 0 := by unfold encErr; rw [if_pos hright]
          have heg : encGot r1 = recBytes r1 := by unfold encGot; rw [if_pos hright]
          rw [hee, show ((0 : Nat) : Int) = 0 from rfl]
          rw [heg] at H4
          obtain ⟨oa, oc, rfl, _, _, _, _⟩ := own_value H4.out
          have hlen : (recBytes r1).length = 160 := recBytes_len r1 (by
            have hh := hright
            simp only [RecS.right, decide_eq_true_eq] at hh
            exact hh.2.2.2.1)
          have h9 := H4.out
          rw [show ∀ A B C D E X Y : SP, A * (B * (C * (D * (E * (X * Y))))) = X * (A * (B * (C * (D * (E * Y))))) from fun A B C D E X Y => by ac_rfl] at h9
          have HW := hide (write_any p s _ n Hfit.out (by omega) to hto1 _ (recBytes r1) (by rw [hlen]) (by rw [hlen]; decide) (fun W hW => own_bytes hW) w4 h9)
          rw [hlen] at HW ⊢
          have hpg : (0 : Int) = (to : Int) := by have h := Hto.out; simp at h; omega
          rw [← hpg] at HW
          clear hpg
          obtain ⟨⟨st, er2⟩, hwr⟩ : ∃ x, x = s.write to (recBytes r1) := ⟨_, rfl⟩
          rw [← hwr] at HW HD4 HD5
          clear hwr hright hee heg hlen HC3 HC4 HC5 gZ h9 Hto
          generalize recBytes r1 = rb at *
          by_cases h0 : er2 = 0
          · have hv := HD5.out h0
            have HV := hide hv
            subst h0
            clear hv HD4 HD5
            go_wp2_with fail
            refine HW.out.mono ?_
            clear HW
            rintro e w5 ⟨rfl, h5, s5⟩
            have H5 := hide h5
            have S5 := hide (S4.out.trans s5)
            rw [show ((0 : Nat) : Int) = 0 from rfl]
            have c6 := cell_of_row w5 w.heap.size 6 _ _ _ (on_blk_mul h5.right.right)
            have hib := Hrd.out w5 h5.right.right.right.right.right.right
            have Hib := hide hib
            clear h5 s5 hib H4 S4
            have hstop : ∀ p : Prop, Hid p → p := fun _ h => h.out
            go_wp2_with (at_builtin; refine wpList_append_bytes (F := all w5) rfl _ _ 22 rfl 5 hu8 infoByte _ [] r.init rfl (own_nil _ _ (on_all w5)) _ rfl Hib.out (by have := Hr.out.init; simp; omega) ?_; intro v2 w6 ho2 hs2; rw [List.nil_append] at ho2; obtain ⟨oa2, oc2, rfl, _, _, _, _⟩ := own_value ho2; have h6 := on_all_to ho2 H5.out; rw [show ∀ A X O B C D E Y : SP, A * (X * (O * (B * (C * (D * (E * Y)))))) = B * (A * (X * (O * (C * (D * (E * Y)))))) from fun A X O B C D E Y => by ac_rfl] at h6; have H6 := hide h6; have S6 := hide (S5.out.trans hs2); have c6b := cell_of_row w6 w.heap.size 6 _ _ _ (on_blk_mul h6); have fr := frozen_of_row w6 w.heap.size 6 _ _ (on_blk_mul h6); have h7 := h6.setCell (i := 6) (.slice oa2 r.init.length oc2); rw [rc_init] at h7; have H7 := hide h7; have S7 := hide (S6.out.setCell ⟨w.heap.size, 6, Option.none⟩ (.slice oa2 r.init.length oc2)); have g7 := on_blk_mul h7; have gZ := on_blk_mul h7.right.right.right.right.right.right; have HsR2 := hide (rc_info r1 (.slice oa2 r.init.length oc2)); have HoR2 := hide (rc_one (s := r1) (iv := .slice oa2 r.init.length oc2) ⟨_, _, _, rfl⟩); clear h6 h7 ho2 hs2; refine hstop _ ?_)
            refine hide ?_
            clear hstop
            have H8 := hide (show (ownR (.slice oa2 r.init.length oc2) r1.init * (Flash p st * F)).on _ from by
              rw [Hi1.out]
              have h9 := (show ∀ B A X O C D E Y : SP, ∀ W : World, (B * (A * (X * (O * (C * (D * (E * Y))))))).on W → (E * (A * (X * Y))).on W from fun B A X O C D E Y W h => by
                rw [show B * (A * (X * (O * (C * (D * (E * Y)))))) = B * (O * (C * (D * (E * (A * (X * Y)))))) from by ac_rfl] at h
                exact h.right.right.right.right) _ _ _ _ _ _ _ _ _ H7.out
              exact (h9.setRow (recCells r1 (.slice oa2 r.init.length oc2))).right)
            have S8 := hide (S7.out.setRow (w.heap.size + 1) (recCells r1 (.slice oa2 r.init.length oc2)))
            clear H5 S5 H6 S6 H7 S7 c6
            go_wp2_with (first
              | (refine wpList_load_row rfl _ _ rfl w.heap.size rfl _ (recCells r1 (.slice oa2 r.init.length oc2)) _ _ g7 hur rfl HsR2.out ?_)
              | (refine wpList_store_row rfl _ _ _ rfl (w.heap.size + 1) (recCells r1 (.slice oa2 r.init.length oc2)) rfl rfl _ _ gZ HsR2.out rfl HoR2.out ?_))
            refine bodyPost_ret (v := .tuple #[.agg (recCells r1 (.slice oa2 r.init.length oc2)), .int .i64 0]) (results_cell_row_tmp Tryz.results8 _ _ (w.heap.size + 1) _ (recCells r1 (.slice oa2 r.init.length oc2)) (0, 0) _ rfl (setRow_heap_same _ _ _ _ _ _ gZ) hur rfl HsR2.out (.int .i64 0) rfl) rfl ?_
            exact ⟨_, by rw [HV.out]; first | done | rfl, by rw [HV.out]; exact H8.out, S8.out⟩
          · have hv := HD4.out h0
            have HV := hide hv
            have e3 : (((er2 : Nat) : Int) != 0) = true := by simp only [bne_iff_ne, ne_eq]; omega
            clear hv HD4 HD5 h0
            go_wp2_with fail
            refine HW.out.mono ?_
            clear HW
            rintro e w5 ⟨rfl, h5, s5⟩
            have H5 := hide h5
            have S5 := hide (S4.out.trans s5)
            have h9 := h5
            rw [show ∀ X O B C D E Y : SP, X * (O * (B * (C * (D * (E * Y))))) = E * (O * (B * (C * (D * (X * Y))))) from fun X O B C D E Y => by ac_rfl] at h9
            have gZ := on_blk_mul h9
            have H9 := hide (h9.setRow (recCells zeroS nilV)).right.right.right.right.right
            have S9 := hide (S5.out.setRow (w.heap.size + 1) (recCells zeroS nilV))
            clear h5 s5 h9 H4 S4
            go_wp2_with (first
              | (refine wpList_build_rc0 rfl rfl ?_)
              | (refine wpList_store_row rfl _ _ _ rfl (w.heap.size + 1) (recCells zeroS nilV) rfl rfl _ _ gZ HsZ.out rfl HoZ.out ?_))
            refine bodyPost_ret (v := .tuple #[.agg (recCells zeroS nilV), .int .i64 (er2 : Nat)]) (results_cell_row_tmp Tryz.results8 _ _ (w.heap.size + 1) _ (recCells zeroS nilV) (0, 0) _ rfl (setRow_heap_same _ _ _ _ _ _ gZ) hur rfl HsZ.out (.int .i64 (er2 : Nat)) rfl) rfl ?_
            exact ⟨nilV, by rw [HV.out]; first | done | rfl, by rw [HV.out]; exact own_nil _ _ H9.out, S9.out⟩
end Go.Proofs.YtgmpmlneoiagdaaGreatDoor
