/- The law SlipEnds: the byte that ends a frame stands at its end, and nowhere else; two texts that are not one have two frames. -/
import Derived.Test.YtdbnjejpejmmjaaSlipLives
import Derived.Test.YtdbnjejpejmmjaaSlipEndsMath
namespace Go.Proofs.Ytdbnjejpejmmjaa
open Go.ChangeShapes Go.WideShapes Go.ChangeAt Go.RowKit
set_option linter.unusedVariables false

set_option maxRecDepth 100000 in
set_option maxHeartbeats 4000000 in
theorem walk_SlipEnds (w : World) (va : Value) (la : List UInt8) (ha : IsBytes w va la) (hla : la.length ≤ 140737488351232) (vb0 : Value) (lb : List UInt8) (hb : IsBytes w vb0 lb) (hlb : lb.length ≤ 140737488351232) :
    Calls Try.prog 9 #[va, vb0] w fun e w' => e = .returned (.bool true) ∧ Below w.heap.size w w' := by
  have Ha := hide ha
  have Hb := hide hb
  obtain ⟨a1, c1, rfl, hc1, hm1, hl1, _⟩ := ha
  obtain ⟨a2, c2, rfl, hc2, hm2, hl2, _⟩ := hb
  have Hl1 := hide hl1
  have Hl2 := hide hl2
  clear hl1 hl2
  unfold maxLen at hm1 hm2
  by_cases hlen : 1000 < la.length + lb.length
  · go_enter Try.func9, Try.ntmps9
    go_wp2_with fail
    refine (lives09_any _).mono ?_
    rintro e w1 ⟨rfl, hb1⟩
    go_wp2_with fail
    refine (lives09_any _).mono ?_
    rintro e w2 ⟨rfl, hb2⟩
    go_wp2
    go_ret
    exact ⟨rfl, hb1.trans (hb2.mono hb1.size)⟩
  · go_enter Try.func9, Try.ntmps9
    go_wp2_with fail
    refine (lives09_any _).mono ?_
    rintro e w1 ⟨rfl, hb1⟩
    have Hr1 := hide (IsRows.one (Ha.out.below hb1) 22)
    have Hfa := hide (frames_one la)
    have Hfb := hide (frames_one lb)
    have hla2 := (encText_len la)
    have hlb2 := (encText_len lb)
    go_wp2_with fail
    refine (encode_any _ _ _ Hr1.out (by rw [frames_one, frame_len]; omega)).mono ?_
    rw [Hfa.out]
    rintro e w2 ⟨v2, rfl, ho2, hs2⟩
    dsimp only at ho2
    have hB2' := all_below ho2.right hs2
    have hB2 : Below w.heap.size w w2 := (hb1.alloc hb1.size _).trans (hB2'.mono (by have := hb1.size; simp; omega))
    obtain ⟨a3, c3, rfl, hc3, hm3, hl3, hn3⟩ := own_bytes ho2
    have hO2 : IsBytes w2 (.slice a3 (frame la).length c3) (frame la) := ⟨a3, c3, rfl, hc3, hm3, hl3, hn3⟩
    have HO2 := hide hO2
    have Hr2 := hide (IsRows.one (Hb.out.below hB2) 22)
    clear ho2 hs2 hB2' hl3 hn3 hO2
    have hfl : (frame la).length ≤ 2001 := by rw [frame_len la]; omega
    clear hla2
    have hfg := frame_gt la
    go_wp2_with fail
    refine (encode_any _ _ _ Hr2.out (by rw [frames_one, frame_len]; omega)).mono ?_
    rw [Hfb.out]
    rintro e w3 ⟨v3, rfl, ho3, hs3⟩
    dsimp only at ho3
    have hB3' := all_below ho3.right hs3
    have hB3a : Below w2.heap.size w2 w3 := ((Below.refl _ _).alloc (Nat.le_refl _) _).trans (hB3'.mono (by simp))
    have hB3 : Below w.heap.size w w3 := hB2.trans (hB3a.mono hB2.size)
    obtain ⟨a4, c4, rfl, hc4, hm4, hl4, hn4⟩ := own_bytes ho3
    obtain ⟨a3', c3', he, _, _, hl3, _⟩ := HO2.out.below hB3a
    cases he
    have Hl3 := hide hl3
    have Hl4 := hide hl4
    clear ho3 hs3 hB3' hl3 hl4 hn4
    have hEnd := hide (frame_end la)
    have Hinj := hide (frame_inj la lb)
    have Hfx := hide (show la = lb → frame la = frame lb from fun h => by rw [h])
    generalize hfra : frame la = fa at *
    generalize hfrb : frame lb = fb at *
    clear hfra hfrb Hfa Hfb
    unfold maxLen at hm3 hm4
    go_wp2_with fail
    go_loop [28] (fun i => ∃ k : Nat, k ≤ fa.length ∧ i = .int .i64 k) (fun i => fa.length - (intOf i).toNat)
    case atStart => exact ⟨0, by omega, rfl⟩
    case round =>
      obtain ⟨k, hk, rfl⟩ := hrel
      by_cases hlt : k < fa.length
      · obtain ⟨b, off, rfl⟩ := Lay.isAddr Hl3.out k (by simpa using hlt)
        have hce := Lay.cell Hl3.out k (vbs_get fa k hlt)
        have hE := hEnd.out k hlt
        generalize fa[k] = cc at hce hE
        by_cases h192 : cc = 192
        · have hk1 := hE.1 h192
          subst h192
          have e1 : ((k : Int) == (fa.length : Int) - 1) = true := by rw [beq_iff_eq]; omega
          clear hE hk1
          go_wp2
          go_round
          case rel => exact ⟨k + 1, by omega, by go_num⟩
          case measure => simp [intOf]; omega
        · have e0 : (((cc.toNat : Nat) : Int) == 192) = false := ne_int h192
          have e1 : ((k : Int) == (fa.length : Int) - 1) = false := by rw [beq_eq_false_iff_ne]; intro e; exact h192 (hE.2 (by omega))
          clear hE
          go_wp2
          go_round
          case rel => exact ⟨k + 1, by omega, by go_num⟩
          case measure => simp [intOf]; omega
      · obtain rfl : k = fa.length := by omega
        have hs := Try.underlying22
        have hu8 := Try.underlying5
        have hstr := Try.underlying9
        have k1 := run_string_of (P := Try.prog) (w := w3) (c := c3) hs hu8 Hl3.out
        have k2 := run_string_of (P := Try.prog) (w := w3) (c := c4) hs hu8 Hl4.out
        have k3 := run_string_of (P := Try.prog) (w := w3) (c := c1) hs hu8 (Hl1.out.below hB3)
        have k4 := run_string_of (P := Try.prog) (w := w3) (c := c2) hs hu8 (Hl2.out.below hB3)
        have e3 : ((fa == fb) == (la == lb)) = true := by
          rw [beq_iff_eq, Bool.eq_iff_iff, beq_iff_eq, beq_iff_eq]
          exact ⟨Hinj.out, Hfx.out⟩
        go_wp2
        go_ret
        exact ⟨rfl, hB3⟩
namespace lawSlipEnds
theorem own : ownKnob Try.prog.godebug = Option.none := by kernel_rfl
theorem laidOut : laidOutB Try.prog = true := by kernel_rfl
set_option maxRecDepth 100000 in
theorem lifted (os : Os) (started : os.Started) (H : Type) (enc : TypeId × Value → H) :
    ReturnsInHanded {} Try.checked os 9 .any (Rows.slipEndsSpec.pre6 enc Try.prog Try.f9 Rows.slipEndsRow.domain false) (Rows.slipEndsSpec.post enc Try.prog Try.f9 false true false false) := by
  refine returnsInHanded_of_change_sized (C := Try.checked) own started (by kernel_rfl) Try.func9
    (ChangeSpec.witness6 (enc := enc) (C := Try.checked) false ⟨#[], #[.slice Option.none 0 0, .slice Option.none 0 0], []⟩ 8 (by kernel_rfl) (by kernel_rfl) (by kernel_rfl) (by kernel_rfl)) ?_
  intro W base args ds gs before hval0 hW hcnd hsz _
  have hval : ∀ (j : Nat) t v, Try.f9.params[j]? = some t → args[j]? = some v → Value.okWide Try.prog W .any base t v := hval0
  have hW' := hW
  obtain ⟨p, q, hA0, hV, rfl, hfz, hnd⟩ := hW
  have hA : DataW.TrodAll enc Try.prog W 0 (fun _ => true) true Try.f9.params.toList args.toList ds p := hA0
  rw [Try.params9] at hA hval
  obtain ⟨v0, vs0, d0, ds0, p0, q0, hargs, rfl, rfl, h0, r0⟩ := trodAll_cons hA
  obtain ⟨v1, vs1, d1, ds1, p1, q1, rfl, rfl, rfl, h1, r1⟩ := trodAll_cons r0
  obtain ⟨rfl, rfl, rfl⟩ := trodAll_nil r1
  obtain rfl : args = #[v0, v1] := by cases args; simp_all
  obtain ⟨rfl, rfl⟩ := trodVars_none hV
  have k0 := h0
  have lt0 : ∀ x ∈ p0, x.block < W.heap.size := by obtain ⟨m, hm⟩ := k0; exact DataW.trod_lt m _ _ _ hm
  obtain ⟨l0, b0, n0⟩ := open_bytes Try.underlying22 Try.underlying5 (by kernel_rfl) (hval 0 22 v0 rfl rfl) h0
  have m0 := n0.reach hsz (j := 0) rfl rfl Try.underlying22 (show 1 ≤ Try.prog.bytesOf 5 from by rw [show Try.prog.bytesOf 5 = 1 by kernel_rfl]; decide)
  have k1 := h1
  have lt1 : ∀ x ∈ p1, x.block < W.heap.size := by obtain ⟨m, hm⟩ := k1; exact DataW.trod_lt m _ _ _ hm
  obtain ⟨l1, b1, n1⟩ := open_bytes Try.underlying22 Try.underlying5 (by kernel_rfl) (hval 1 22 v1 rfl rfl) h1
  have m1 := n1.reach hsz (j := 1) rfl rfl Try.underlying22 (show 1 ≤ Try.prog.bytesOf 5 from by rw [show Try.prog.bytesOf 5 = 1 by kernel_rfl]; decide)
  clear hA0 hval0 hsz
  refine (walk_SlipEnds W v0 l0 b0 m0 v1 l1 b1 m1).mono fun e W' ⟨he, bel⟩ => ?_
  subst he
  exact ⟨_, rfl, _, _, _, [], _, [], hW', trodAll_mk1 (shut_bool Try.underlying4 _), (trodAll_cons_mk (Below.trod laidOut (by kernel_rfl) (of_decide_eq_true (by kernel_rfl)) k0 bel lt0) (trodAll_cons_mk (Below.trod laidOut (by kernel_rfl) (of_decide_eq_true (by kernel_rfl)) k1 bel lt1) trodAll_mk0)), rfl, bel.frame _, fun h => by cases h⟩

theorem over : Rows.slipEndsRow.holds Try.pinned (OpenSpec.ofChange Rows.slipEndsSpec) :=
  OpenClaim.holds_of_wide 9 Try.f9 rfl rfl rfl rfl rfl rfl rfl ⟨rfl, rfl, rfl, rfl, rfl⟩ rfl rfl rfl rfl rfl (by kernel_rfl) Try.func9 (by kernel_rfl)
    (of_decide_eq_true (by kernel_rfl)) (by unfold Func.isWrapper; first | (rw [if_pos (by decide +kernel)]; kernel_rfl) | (rw [if_neg (by decide +kernel)]; exact ⟨rfl, rfl⟩))
    (fun os started H enc _ => lifted os started H enc)

theorem proved : Rows.SlipEndsSaid := over
end lawSlipEnds
end Go.Proofs.Ytdbnjejpejmmjaa
