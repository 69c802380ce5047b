/- The law DeslipBytes: what any bytes bring, one by one, to a decoder of any size, is what the document says. -/
import Derived.Test.YtdbnjejpejmmjaaDeslipEvents2
import Derived.Test.YtdbnjejpejmmjaaDeslipErr
namespace Go.Proofs.Ytdbnjejpejmmjaa
open Go.ChangeShapes Go.WideShapes Go.ChangeAt Go.RowKit
set_option linter.unusedVariables false

set_option maxRecDepth 100000 in
set_option maxHeartbeats 8000000 in
theorem walk_DeslipBytes (w : World) (v : Value) (b : List UInt8) (hb : IsBytes w v b) (m : Int) (hm1 : -9223372036854775808 ≤ m) (hm2 : m ≤ 9223372036854775807) :
    Calls Try.prog 10 #[v, .int .i64 m] w fun e w' => e = .returned (.bool true) ∧ Below w.heap.size w w' := by
  have Hb := hide hb
  obtain ⟨a, c, rfl, hc, hmx, _, _⟩ := hb
  unfold maxLen at hmx
  by_cases hlen : 1000 < b.length
  · go_enter Try.func10, Try.ntmps10
    go_wp2_with fail
    refine (lives10_any _).mono ?_
    rintro e w1 ⟨rfl, hb1⟩
    go_wp2_with fail
    refine (lives10_any _).mono ?_
    rintro e w2 ⟨rfl, hb2⟩
    go_wp2
    go_ret
    exact ⟨rfl, hb1.trans (hb2.mono hb1.size)⟩
  · by_cases hm : m < 1 ∨ 65536 < m
    · rcases (show m < 1 ∨ (1 ≤ m ∧ 65536 < m) by omega) with h1 | ⟨h1, h2⟩
      all_goals
        go_enter Try.func10, Try.ntmps10
        have Hm := hide hm
        clear hm
        go_wp2_with fail
        refine (lives10_any _).mono ?_
        rintro e w1 ⟨rfl, hb1⟩
        go_wp2_with fail
        refine (dnew_err m Hm.out w1).mono ?_
        rintro e w2 ⟨rfl, rfl⟩
        go_wp2_with fail
        go_ret
        exact ⟨rfl, hb1⟩
    · obtain ⟨n, rfl⟩ : ∃ n : Nat, m = n := Int.eq_ofNat_of_zero_le (by omega)
      have hn1 : 1 ≤ n := by omega
      have hn2 : n ≤ 65536 := by omega
      clear hm
      go_enter Try.func10, Try.ntmps10
      go_wp2_with fail
      refine (lives10_any _).mono ?_
      rintro e w1 ⟨rfl, hb1⟩
      have HB1 := hide hb1
      clear hb1
      go_wp2_with fail
      refine (dnew_any n (by omega) (by omega) w1).mono ?_
      rintro e w2 ⟨v2, rfl, ho, hs⟩
      obtain ⟨p, rfl, ho2⟩ := dnewQ.out ho
      have HF := hide (feedl_any p _ _ w2 ho2 (dnew_ok (by omega)) _ b (by omega) (fun w' h => bytes_all (Hb.out.below HB1.out) h))
      rw [feedK_all, run_parts n (b.length + 1) b (by omega)] at HF
      have HS := hide hs
      clear ho ho2 hs
      go_wp2_with fail
      refine HF.out.mono ?_
      rintro e w3 ⟨out, L, rfl, hL, h3, hs3⟩
      have h3a := h3.right.right
      have HEv := hide (events_any _ b n (by omega) w3 (bytes_all (Hb.out.below HB1.out) h3a) (by omega))
      have HL := hide hL
      have H3 := hide h3
      have HS3 := hide (HS.out.trans hs3)
      have hLlen : L.length ≤ 1000000 := by
        have h1 := congrArg List.length hL
        have h2 := evsK_len n (partsF b) (partsF b).length
        unfold evsK at h2
        rw [List.take_length, partsF_len] at h2
        rw [List.length_map] at h1
        omega
      obtain ⟨oa, oc, rfl, _, _, _, _⟩ := Evs.lay h3
      clear h3a hs3 h3 hL HF HS
      go_wp2_with fail
      refine HEv.out.mono ?_
      rintro e w4 ⟨out4, L4, rfl, hL4, h4, hs4⟩
      have h5 := on_all_to h4 H3.out
      have h6 := h5
      rw [SP.mul_left_comm] at h6
      obtain ⟨oa4, oc4, rfl, _, _, _, _⟩ := Evs.lay h5
      have HSame := hide (same10_any _ _ L L4 _ _ w4 h6 h5 (HL.out.trans hL4.symm) hLlen)
      have HB4 := hide (HB1.out.trans ((all_below h6.right.right.right (HS3.out.trans hs4)).mono HB1.out.size))
      clear h4 h5 h6 hs4 hL4 HEv
      go_wp2_with fail
      refine HSame.out.mono ?_
      rintro e w5 ⟨rfl, hb5⟩
      go_wp2_with fail
      go_ret
      exact ⟨rfl, HB4.out.trans (hb5.mono HB4.out.size)⟩
namespace lawDeslipBytes
theorem own : ownKnob Try.prog.godebug = Option.none := by kernel_rfl
theorem laidOut : laidOutB Try.prog = true := by kernel_rfl
set_option maxRecDepth 100000 in
theorem lifted (os : Os) (started : os.Started) (H : Type) (enc : TypeId × Value → H) :
    ReturnsInHanded {} Try.checked os 10 .any (Rows.deslipBytesSpec.pre6 enc Try.prog Try.f10 Rows.deslipBytesRow.domain false) (Rows.deslipBytesSpec.post enc Try.prog Try.f10 false true false false) := by
  refine returnsInHanded_of_change_sized (C := Try.checked) own started (by kernel_rfl) Try.func10
    (ChangeSpec.witness6 (enc := enc) (C := Try.checked) false ⟨#[], #[.slice Option.none 0 0, .int .i64 0], []⟩ 8 (by kernel_rfl) (by kernel_rfl) (by kernel_rfl) (by kernel_rfl)) ?_
  intro W base args ds gs before hval0 hW hcnd hsz _
  have hval : ∀ (j : Nat) t v, Try.f10.params[j]? = some t → args[j]? = some v → Value.okWide Try.prog W .any base t v := hval0
  have hW' := hW
  obtain ⟨p, q, hA0, hV, rfl, hfz, hnd⟩ := hW
  have hA : DataW.TrodAll enc Try.prog W 0 (fun _ => true) true Try.f10.params.toList args.toList ds p := hA0
  rw [Try.params10] at hA hval
  obtain ⟨v0, vs0, d0, ds0, p0, q0, hargs, rfl, rfl, h0, r0⟩ := trodAll_cons hA
  obtain ⟨v1, vs1, d1, ds1, p1, q1, rfl, rfl, rfl, h1, r1⟩ := trodAll_cons r0
  obtain ⟨rfl, rfl, rfl⟩ := trodAll_nil r1
  obtain rfl : args = #[v0, v1] := by cases args; simp_all
  obtain ⟨rfl, rfl⟩ := trodVars_none hV
  have k0 := h0
  have lt0 : ∀ x ∈ p0, x.block < W.heap.size := by obtain ⟨m, hm⟩ := k0; exact DataW.trod_lt m _ _ _ hm
  obtain ⟨l0, b0, n0⟩ := open_bytes Try.underlying22 Try.underlying5 (by kernel_rfl) (hval 0 22 v0 rfl rfl) h0
  have k1 := h1
  have lt1 : ∀ x ∈ p1, x.block < W.heap.size := by obtain ⟨m, hm⟩ := k1; exact DataW.trod_lt m _ _ _ hm
  obtain ⟨a1, rfl, rfl, rfl, w1⟩ := open_int Try.underlying3 (hval 1 3 v1 rfl rfl) h1
  obtain ⟨l1, u1⟩ := wf_i64 w1
  clear hA0 hval0 hsz
  refine (walk_DeslipBytes W v0 l0 b0 a1 l1 u1).mono fun e W' ⟨he, bel⟩ => ?_
  subst he
  exact ⟨_, rfl, _, _, _, [], _, [], hW', trodAll_mk1 (shut_bool Try.underlying4 _), (trodAll_cons_mk (Below.trod laidOut (by kernel_rfl) (of_decide_eq_true (by kernel_rfl)) k0 bel lt0) (trodAll_cons_mk (shut_int Try.underlying3 w1) trodAll_mk0)), rfl, bel.frame _, fun h => by cases h⟩

theorem over : Rows.deslipBytesRow.holds Try.pinned (OpenSpec.ofChange Rows.deslipBytesSpec) :=
  OpenClaim.holds_of_wide 10 Try.f10 rfl rfl rfl rfl rfl rfl rfl ⟨rfl, rfl, rfl, rfl, rfl⟩ rfl rfl rfl rfl rfl (by kernel_rfl) Try.func10 (by kernel_rfl)
    (of_decide_eq_true (by kernel_rfl)) (by unfold Func.isWrapper; first | (rw [if_pos (by decide +kernel)]; kernel_rfl) | (rw [if_neg (by decide +kernel)]; exact ⟨rfl, rfl⟩))
    (fun os started H enc _ => lifted os started H enc)

theorem proved : Rows.DeslipBytesSaid := over
end lawDeslipBytes
end Go.Proofs.Ytdbnjejpejmmjaa
