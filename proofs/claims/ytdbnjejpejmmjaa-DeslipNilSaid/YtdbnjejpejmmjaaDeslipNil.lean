/- The law DeslipNil: no decoder; and texts that were told are one's own. -/
import Derived.Test.YtdbnjejpejmmjaaDeslipLives
namespace Go.Proofs.Ytdbnjejpejmmjaa
open Go.ChangeShapes Go.WideShapes Go.ChangeAt Go.RowKit
set_option linter.unusedVariables false

theorem dn1 : (DsS.mk [] 4 false false).feed 7 = ([], 0, ⟨[7], 4, false, false⟩) := by kernel_rfl
theorem dn2 : (DsS.mk [7] 4 false false).feed 192 = ([7], 0, ⟨[], 4, false, false⟩) := by kernel_rfl
theorem dn3 : (DsS.mk [] 4 false false).feed 8 = ([], 0, ⟨[8], 4, false, false⟩) := by kernel_rfl
theorem dn4 : (DsS.mk [8] 4 false false).feed 192 = ([8], 0, ⟨[], 4, false, false⟩) := by kernel_rfl

set_option maxRecDepth 100000 in
set_option maxHeartbeats 4000000 in
theorem walk_DeslipNil (w : World) (c : Int) (h0 : 0 ≤ c) (h255 : c ≤ 255) :
    Calls Try.prog 12 #[.int .u8 c] w fun e w' => e = .returned (.bool true) ∧ Below w.heap.size w w' := by
  go_enter Try.func12, Try.ntmps12
  go_wp2_with fail
  refine (lives10_any _).mono ?_
  rintro e w1 ⟨rfl, hb1⟩
  go_wp2_with fail
  refine (feed_nil c w1).mono ?_
  rintro e w2 ⟨rfl, rfl⟩
  go_wp2_with fail
  refine (dnew_any 4 (by omega) (by omega) w1).mono ?_
  rintro e w2 ⟨v, rfl, ho, hs⟩
  obtain ⟨p, rfl, ho2⟩ := dnewQ.out ho
  have HF := hide (feed_any p _ _ w2 ho2 (dnew_ok (by omega)) 7)
  rw [dn1] at HF
  have HS := hide hs
  clear ho ho2 hs
  go_wp2_with fail
  refine HF.out.mono ?_
  rintro e w3 ⟨v3, rfl, h3, hs3⟩
  obtain ⟨x3, rfl, h3'⟩ := feedQ.out h3
  have HF3 := hide (feed_any p _ _ w3 h3'.right ⟨by simp, by simp⟩ 192)
  rw [dn2] at HF3
  have HS3 := hide (HS.out.trans hs3)
  clear h3 h3' hs3 HF HS
  go_wp2_with fail
  refine HF3.out.mono ?_
  rintro e w4 ⟨v4, rfl, h4, hs4⟩
  obtain ⟨x4, rfl, h4'⟩ := feedQ.out h4
  rw [SP.mul_left_comm] at h4'
  have HF4 := hide (feed_any p _ _ w4 h4' (dnew_ok (by omega)) 8)
  rw [dn3] at HF4
  have HS4 := hide (HS3.out.trans hs4)
  clear h4 h4' hs4 HF3 HS3
  go_wp2_with fail
  refine HF4.out.mono ?_
  rintro e w5 ⟨v5, rfl, h5, hs5⟩
  obtain ⟨x5, rfl, h5'⟩ := feedQ.out h5
  have HF5 := hide (feed_any p _ _ w5 h5'.right ⟨by simp, by simp⟩ 192)
  rw [dn4] at HF5
  have HS5 := hide (HS4.out.trans hs5)
  clear h5 h5' hs5 HF4 HS4
  go_wp2_with fail
  refine HF5.out.mono ?_
  rintro e w6 ⟨v6, rfl, h6, hs6⟩
  obtain ⟨x6, rfl, h6'⟩ := feedQ.out h6
  have b6 := own_bytes h6'
  have b4 := own_bytes h6'.right.right
  have HB := hide (hb1.trans ((all_below h6'.right.right.right (HS5.out.trans hs6)).mono hb1.size))
  obtain ⟨a6, c6, rfl, _, _, hl6, _⟩ := b6
  obtain ⟨a4, c4, rfl, _, _, hl4, _⟩ := b4
  have hsu := Try.underlying22
  have hsb := Try.underlying5
  have k6 := run_string_of (P := Try.prog) (w := w6) (c := c6) hsu hsb hl6
  have k4 := run_string_of (P := Try.prog) (w := w6) (c := c4) hsu hsb hl4
  rw [show ([7] : List UInt8).length = 1 from rfl] at k4
  rw [show ([8] : List UInt8).length = 1 from rfl] at k6
  have hst := Try.underlying9
  clear h6 h6' hs6 hl6 hl4 HF5 HS5 hb1
  go_wp2_with fail
  go_ret
  exact ⟨rfl, HB.out⟩
namespace lawDeslipNil
theorem own : ownKnob Try.prog.godebug = Option.none := by kernel_rfl
theorem laidOut : laidOutB Try.prog = true := by kernel_rfl
set_option maxRecDepth 100000 in
theorem lifted (os : Os) (started : os.Started) (H : Type) (enc : TypeId × Value → H) :
    ReturnsInHanded {} Try.checked os 12 .any (Rows.deslipNilSpec.pre6 enc Try.prog Try.f12 Rows.deslipNilRow.domain false) (Rows.deslipNilSpec.post enc Try.prog Try.f12 false true false false) := by
  refine returnsInHanded_of_change_sized (C := Try.checked) own started (by kernel_rfl) Try.func12
    (ChangeSpec.witness6 (enc := enc) (C := Try.checked) false ⟨#[], #[.int .u8 0], []⟩ 8 (by kernel_rfl) (by kernel_rfl) (by kernel_rfl) (by kernel_rfl)) ?_
  intro W base args ds gs before hval0 hW hcnd hsz _
  have hval : ∀ (j : Nat) t v, Try.f12.params[j]? = some t → args[j]? = some v → Value.okWide Try.prog W .any base t v := hval0
  have hW' := hW
  obtain ⟨p, q, hA0, hV, rfl, hfz, hnd⟩ := hW
  have hA : DataW.TrodAll enc Try.prog W 0 (fun _ => true) true Try.f12.params.toList args.toList ds p := hA0
  rw [Try.params12] at hA hval
  obtain ⟨v0, vs0, d0, ds0, p0, q0, hargs, rfl, rfl, h0, r0⟩ := trodAll_cons hA
  obtain ⟨rfl, rfl, rfl⟩ := trodAll_nil r0
  obtain rfl : args = #[v0] := by cases args; simp_all
  obtain ⟨rfl, rfl⟩ := trodVars_none hV
  have k0 := h0
  have lt0 : ∀ x ∈ p0, x.block < W.heap.size := by obtain ⟨m, hm⟩ := k0; exact DataW.trod_lt m _ _ _ hm
  obtain ⟨a0, rfl, rfl, rfl, w0⟩ := open_int Try.underlying5 (hval 0 5 v0 rfl rfl) h0
  obtain ⟨l0, u0⟩ := wf_u8 w0
  clear hA0 hval0 hsz
  refine (walk_DeslipNil W a0 l0 u0).mono fun e W' ⟨he, bel⟩ => ?_
  subst he
  exact ⟨_, rfl, _, _, _, [], _, [], hW', trodAll_mk1 (shut_bool Try.underlying4 _), (trodAll_cons_mk (shut_int Try.underlying5 w0) trodAll_mk0), rfl, bel.frame _, fun h => by cases h⟩

theorem over : Rows.deslipNilRow.holds Try.pinned (OpenSpec.ofChange Rows.deslipNilSpec) :=
  OpenClaim.holds_of_wide 12 Try.f12 rfl rfl rfl rfl rfl rfl rfl ⟨rfl, rfl, rfl, rfl, rfl⟩ rfl rfl rfl rfl rfl (by kernel_rfl) Try.func12 (by kernel_rfl)
    (of_decide_eq_true (by kernel_rfl)) (by unfold Func.isWrapper; first | (rw [if_pos (by decide +kernel)]; kernel_rfl) | (rw [if_neg (by decide +kernel)]; exact ⟨rfl, rfl⟩))
    (fun os started H enc _ => lifted os started H enc)

theorem proved : Rows.DeslipNilSaid := over
end lawDeslipNil
end Go.Proofs.Ytdbnjejpejmmjaa
