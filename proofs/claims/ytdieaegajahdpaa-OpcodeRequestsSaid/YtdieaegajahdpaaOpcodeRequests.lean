/- The law OpcodeRequests: any request's bytes, if it is one, are the document's; they are parsed to it. -/
import Derived.Test.YtdieaegajahdpaaOpc12
namespace Go.Proofs.Ytdieaegajahdpaa
open Go.ChangeShapes Go.WideShapes Go.ChangeAt Go.RowKit
set_option linter.unusedVariables false
set_option linter.unusedSimpArgs false

theorem reqBox {w' : World} {b : Nat} {q : ReqS} {v : Value} {t : TypeId} (h : w'.heap[b]? = some (.cells (reqCells q v) t)) :
    w'.cell? ⟨b, 0, Option.none⟩ = some (vb q.op) ∧ w'.cell? ⟨b, 1, Option.none⟩ = some (vb q.type) ∧ w'.cell? ⟨b, 2, Option.none⟩ = some (u32v q.size) ∧ w'.cell? ⟨b, 3, Option.none⟩ = some v := by
  refine ⟨?_, ?_, ?_, ?_⟩ <;> (rw [cell_of_row _ _ _ _ _ _ h]; rfl)
set_option maxRecDepth 100000 in
set_option maxHeartbeats 16000000 in
theorem walk_OpcodeRequests (w : World) (q : ReqS) (dv : Value) (hsz : q.size < 4294967296) (hb : IsBytes w dv q.data) :
    Calls Try.prog 6 #[.agg (reqCells q dv)] w fun e w' => e = .returned (.bool true) ∧ Below w.heap.size w w' := by
  have huq := Try.underlying46
  have huq2 := Try.underlying49
  have hsq : (Try.prog.info? 46).map (·.size) = some 4 := by kernel_rfl
  have hsq2 : (Try.prog.info? 49).map (·.size) = some 4 := by kernel_rfl
  have Hb := hide hb
  obtain ⟨da, dc, rfl, hdc, hdm, _, _⟩ := hb
  unfold maxLen at hdm
  have hbox := heap_alloc_new w (.cells (reqCells q (.slice da q.data.length dc)) 46)
  by_cases hlen : 200 < q.data.length
  · go_enter Try.func6, Try.ntmps6
    go_wp2_with fail
    refine (lives16_any _).mono ?_
    rintro e w1 ⟨rfl, hb1⟩
    obtain ⟨_, _, _, b3⟩ := reqBox ((hb1.block w.heap.size (by simp)).trans hbox)
    have HB1 := hide (Below.trans alloc1 (hb1.mono (by simp)))
    clear hb1 hbox huq huq2 hsq hsq2
    generalize q.data.length = n at *
    go_wp2_with fail
    refine (lives16_any _).mono ?_
    rintro e w2 ⟨rfl, hb2⟩
    go_wp2
    go_ret
    exact ⟨rfl, HB1.out.trans (hb2.mono HB1.out.size)⟩
  · have hlen2 : q.data.length ≤ 200 := by omega
    have hu := Try.underlying23
    have hu8 := Try.underlying5
    have hstr := Try.underlying9
    have HP := hide (fun h => enc_parsed (q := q) h)
    clear hlen
    go_enter Try.func6, Try.ntmps6
    go_wp2_with fail
    refine (lives16_any _).mono ?_
    rintro e w2 ⟨rfl, hb2⟩
    have h2 := ((on_all w).alloc (.cells (reqCells q (.slice da q.data.length dc)) 46)).below hb2
    have H2 := hide h2
    have Hs2 := hide (((Str.refl w).alloc (.cells (reqCells q (.slice da q.data.length dc)) 46)).trans (Str.below hb2))
    have g2 := on_blk_mul h2
    have G2 := hide g2
    obtain ⟨_, _, _, b3⟩ := reqBox g2
    have hEn := oencode_any q (.slice da q.data.length dc) w2 hsz (Hb.out.below (all_below h2.right Hs2.out)) (by omega)
    clear hb2 hbox h2
    go_wp2_with (refine wpList_load_row rfl _ _ rfl w.heap.size rfl _ (reqCells q _) _ _ g2 huq rfl hsq ?_)
    refine hEn.mono ?_
    clear hEn
    rintro e w3 ⟨out, rfl, ho, hs3⟩
    have h3 := on_all_to ho H2.out
    have HS3 := hide (Hs2.out.trans hs3)
    clear ho hs3 b3 g2
    obtain ⟨c0, c1, c2, c3⟩ := reqBox (on_blk_mul h3.right)
    obtain ⟨oa, oc, rfl, hol, _, _, _⟩ := own_value h3
    have hRe := renc_any q (.slice da q.data.length dc) w3 hsz (Hb.out.below (all_below h3.right.right HS3.out)) (by omega)
    have H3 := hide h3
    clear h3
    cases hK : encOk q with
    | false =>
      have HK := hide hK
      rw [hK] at hRe
      simp only [hK, if_false, Bool.false_eq_true, List.length_nil] at hol H3 ⊢
      clear hK
      go_wp2_with fail
      refine hRe.mono ?_
      clear hRe
      rintro e w4 ⟨out2, rfl, _, hb4⟩
      have HB4 := hide ((all_below H3.out.right.right HS3.out).trans (hb4.mono HS3.out.size))
      clear hb4
      go_wp2_with fail
      go_ret
      exact ⟨rfl, HB4.out⟩
    | true =>
      obtain ⟨hE, hG⟩ := HP.out hK
      have HE := hide hE
      have HG := hide hG
      rw [hK] at hRe
      simp only [hK, if_true] at hol H3 ⊢
      clear hK hE hG
      go_wp2_with fail
      refine hRe.mono ?_
      clear hRe
      rintro e w4 ⟨out2, rfl, hi2, hb4⟩
      have h4 := H3.out.below hb4
      have hP := oparse_any _ (encBytes q) w4 (own_bytes h4) (by
        have : (encBytes q).length ≤ 300 := by
          unfold encBytes
          simp only [List.length_append, List.length_take, List.length_cons, List.length_nil, wordB_len]
          split <;> simp <;> omega
        omega)
      have H4 := hide h4
      have HS4 := hide (HS3.out.trans (Str.below hb4))
      have HI2 := hide (hi2 rfl)
      obtain ⟨o2a, o2c, rfl, _, _, _, _⟩ := hi2 rfl
      clear h4 hb4 hi2 c0 c1 c2 c3
      generalize hEB : encBytes q = eb at *
      clear hEB
      go_wp2_with fail
      refine hP.mono ?_
      clear hP
      rintro e w5 ⟨iv1, rfl, hiv, hs5⟩
      rw [HE.out, HG.out] at *
      have h5 := on_all_to hiv H4.out
      obtain ⟨ia, ic, rfl, _, _, _, _⟩ := own_value hiv
      have HI5 := hide (HI2.out.below (all_below hiv.right hs5))
      have HS5 := hide (HS4.out.trans hs5)
      clear hiv hs5
      have hr5 := heap_alloc_new w5 (.cells zq 46)
      have h6 := (h5.alloc (.cells zq 46)).setRow (reqCells q (.slice ia q.data.length ic))
      have hs6 := (HS5.out.alloc (.cells zq 46)).setRow w5.heap.size (reqCells q (.slice ia q.data.length ic))
      have hI6 := HI5.out.below (below_setRow (alloc1 (o := .cells zq 46)) (Nat.le_refl _) (reqCells q (.slice ia q.data.length ic)))
      generalize hW6 : (w5.alloc (.cells zq 46)).setRow w5.heap.size (reqCells q (.slice ia q.data.length ic)) = w6 at *
      have HW6 := hide hW6
      clear hW6
      have gA := on_blk_mul h6.right.right.right
      obtain ⟨d0, d1, d2, d3⟩ := reqBox (on_blk_mul h6)
      have HB6 := hide (all_below h6.right.right.right.right hs6)
      have hS := lsame_any q (.slice da q.data.length dc) (.slice ia q.data.length ic) w6 (Hb.out.below HB6.out) (own_bytes h6.right)
      obtain ⟨_, _, e1, _, _, l1, _⟩ := own_value h6.right.right
      simp only [Value.slice.injEq] at e1
      obtain ⟨rfl, _, rfl⟩ := e1
      obtain ⟨_, _, e2, _, _, l2, _⟩ := hI6
      simp only [Value.slice.injEq] at e2
      obtain ⟨rfl, _, rfl⟩ := e2
      have k1 := run_string_of (P := Try.prog) (c := oc) hu hu8 l1 _ hstr
      have k2 := run_string_of (P := Try.prog) (c := o2c) hu hu8 l2 _ hstr
      clear l1 l2 h5 h6 hs6 H3 H4 HI2 HI5
      go_wp2_with (first
        | (refine wpList_store_row rfl _ _ _ rfl w5.heap.size (reqCells q _) rfl rfl _ _ hr5 hsq (zq_size _ _) (req_one _ _ _ _) ?_; rw [HW6.out])
        | (refine wpList_load_row_g rfl _ _ rfl w.heap.size rfl _ (reqCells q _) _ _ gA huq rfl hsq ?_))
      refine hS.mono ?_
      clear hS
      rintro e w7 ⟨rfl, hb7⟩
      have HB7 := hide (HB6.out.trans (hb7.mono HB6.out.size))
      clear hb7
      go_wp2_with fail
      go_ret
      exact ⟨rfl, HB7.out⟩
namespace lawOpcodeRequests
theorem own : ownKnob Try.prog.godebug = Option.none := by kernel_rfl
theorem laidOut : laidOutB Try.prog = true := by kernel_rfl
set_option maxRecDepth 100000 in
theorem lifted (os : Os) (started : os.Started) (H : Type) (enc : TypeId × Value → H) :
    ReturnsInHanded {} Try.checked os 6 .any (Rows.opcodeRequestsSpec.pre6 enc Try.prog Try.f6 Rows.opcodeRequestsRow.domain false) (Rows.opcodeRequestsSpec.post enc Try.prog Try.f6 false true false false) := by
  refine returnsInHanded_of_change_sized (C := Try.checked) own started (by kernel_rfl) Try.func6
    (ChangeSpec.witness6 (enc := enc) (C := Try.checked) false ⟨#[], #[.agg #[.int .u8 0, .int .u8 0, .int .u32 0, .slice Option.none 0 0]], []⟩ 8 (by kernel_rfl) (by kernel_rfl) (by kernel_rfl) (by kernel_rfl)) ?_
  intro W base args ds gs before hval0 hW hcnd hsz _
  have hval : ∀ (j : Nat) t v, Try.f6.params[j]? = some t → args[j]? = some v → Value.okWide Try.prog W .any base t v := hval0
  have hW' := hW
  obtain ⟨p, q, hA0, hV, rfl, hfz, hnd⟩ := hW
  have hA : DataW.TrodAll enc Try.prog W 0 (fun _ => true) true Try.f6.params.toList args.toList ds p := hA0
  rw [Try.params6] at hA hval
  obtain ⟨v0, vs0, d0, ds0, p0, q0, hargs, rfl, rfl, h0, r0⟩ := trodAll_cons hA
  obtain ⟨rfl, rfl, rfl⟩ := trodAll_nil r0
  obtain rfl : args = #[v0] := by cases args; simp_all
  obtain ⟨rfl, rfl⟩ := trodVars_none hV
  have k0 := h0
  have lt0 : ∀ x ∈ p0, x.block < W.heap.size := by obtain ⟨m, hm⟩ := k0; exact DataW.trod_lt m _ _ _ hm
  obtain ⟨s0, iv0, rfl, nn0, b0⟩ := open_req (hval 0 46 v0 rfl rfl) h0
  clear hA0 hval0 hsz
  refine (walk_OpcodeRequests W s0 iv0 nn0 b0).mono fun e W' ⟨he, bel⟩ => ?_
  subst he
  exact ⟨_, rfl, _, _, _, [], _, [], hW', trodAll_mk1 (shut_bool Try.underlying4 _), (trodAll_cons_mk (Below.trod laidOut (by kernel_rfl) (of_decide_eq_true (by kernel_rfl)) k0 bel lt0) trodAll_mk0), rfl, bel.frame _, fun h => by cases h⟩

theorem over : Rows.opcodeRequestsRow.holds Try.pinned (OpenSpec.ofChange Rows.opcodeRequestsSpec) :=
  OpenClaim.holds_of_wide 6 Try.f6 rfl rfl rfl rfl rfl rfl rfl ⟨rfl, rfl, rfl, rfl, rfl⟩ rfl rfl rfl rfl rfl (by kernel_rfl) Try.func6 (by kernel_rfl)
    (of_decide_eq_true (by kernel_rfl)) (by unfold Func.isWrapper; first | (rw [if_pos (by decide +kernel)]; kernel_rfl) | (rw [if_neg (by decide +kernel)]; exact ⟨rfl, rfl⟩))
    (fun os started H enc _ => lifted os started H enc)

theorem proved : Rows.OpcodeRequestsSaid := over
end lawOpcodeRequests
end Go.Proofs.Ytdieaegajahdpaa
