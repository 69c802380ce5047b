/- The law SettingsArgs: flash that has not both pages, or no power, and none; the number that can't rise. -/
import Derived.Test.YtjdebgbiockafaaSet6

namespace Go.Proofs.Ytjdebgbiockafaa
open Go.ChangeShapes Go.WideShapes Go.ChangeAt Go.RowKit
set_option linter.unusedVariables false
set_option linter.unusedSimpArgs false

theorem um4 (t : Int) : ∃ k : Nat, k < 4 ∧ (IntKind.u64.wrap t).tmod 4 = (k : Int) := by
  have h0 : 0 ≤ IntKind.u64.wrap t := by rw [IntKind.wrap_u64]; omega
  refine ⟨((IntKind.u64.wrap t) % 4).toNat, by omega, ?_⟩
  rw [Int.tmod_eq_emod_of_nonneg h0]
  omega
theorem rc_buildL (w : World) : (Instr.build 35 #[(0, .int .u32 4294967295)]).run Try.prog w = .ok (.agg (recCells lastR nilV)) w := by kernel_rfl
theorem wpList_build_last {ops : Array Oper} {rest : List Oper} {o : Oper} {a : Act} {w : World} {Q : Exit → Act → World → Prop} (hgd : o.guard = Option.none) (ho : o.op = .build 35 #[(0, .const (.int .u32 4294967295))])
    (hk : wpList Try.prog ops Q rest (a.put o.dst (.agg (recCells lastR nilV))) w) : wpList Try.prog ops Q (o :: rest) a w := by
  have hr : (execOp a.eval o).run Try.prog w = .ok (.value (.agg (recCells lastR nilV))) w := by
    unfold execOp
    rw [ho]
    simp only [List.map_toArray, List.map_cons, List.map_nil]
    rw [Sem.run_bind, show a.eval (.const (.int .u32 4294967295)) = .int .u32 4294967295 from rfl, rc_buildL]
    rfl
  exact wpList_plain hgd fun _ hK => by
    unfold Oper.wp
    simp only [hr]
    exact hK _ _ hk
/-- the power goes in the next step: an erasure leaves it off -/
theorem off_now (s : FlS) (h : s.off = false) (hw : 0 < s.worn.length) : (({ s with armed := true, left := 0, tear := 0 } : FlS).era 0).1.off = true := by
  unfold FlS.era
  rw [if_neg (by simp [h]), if_neg (by show ¬ s.worn.length ≤ 0; omega)]
  simp [FlS.eraS, FlS.step, FlS.fails]
theorem load_off {s : FlS} (h : s.off = true) (hB : 512 ≤ s.B.length) : s.load = (zeroS, 0, 5) := by
  unfold FlS.load
  rw [if_neg (by omega), if_pos h]
theorem load_small {s : FlS} (hB : s.B.length < 512) : s.load = (zeroS, 0, 1) := by
  unfold FlS.load
  rw [if_pos hB]

set_option maxRecDepth 100000 in
set_option maxHeartbeats 32000000 in
theorem walk_SettingsArgs (w : World) (a0 : Int) (l0 : -9223372036854775808 ≤ a0) (u0 : a0 ≤ 9223372036854775807) :
    Calls Try.prog 5 #[.int .i64 a0] w fun e w' => e = .returned (.bool true) ∧ Below w.heap.size w w' := by
  have hur := Try.underlying35
  have hui := Try.underlying3
  have huu := Try.underlying24
  have hz := rc_hz
  have hlive := lives14_any w
  obtain ⟨k, hk, hq⟩ := um4 a0
  have hsum : (2 : Int) + (k : Int) = ((2 + k : Nat) : Int) := by omega
  have f1 := args_new k hk
  have f2 := args_last k hk
  have f3 := args_off k hk
  have Hq := hide hq
  have Hf1 := hide f1
  have Hf2 := hide f2
  have Hf3 := hide f3
  clear hq f1 f2 f3
  go_enter Try.func5, Try.ntmps5
  go_wp2_with fail
  refine hlive.mono ?_
  clear hlive
  rintro e w1 ⟨rfl, hb⟩
  have H1 := hide ((on_all w).below hb)
  have S1 := hide (Str.below hb)
  clear hb
  go_wp2_with fail
  refine (new_any 1 (by omega) (by omega) w1).mono ?_
  rintro e w2 ⟨v, rfl, ho, hs⟩
  obtain ⟨p, rfl, ho2⟩ := newQ.out ho
  have H2 := hide (on_all_to ho2 H1.out)
  have S2 := hide (S1.out.trans hs)
  have hl1 : (FlS.new 1).load = (zeroS, 0, 1) := load_small (by simp [FlS.new])
  have Hl1 := hide hl1
  have Hfit1 := hide (FlS.Fit.new 1 (by omega) (by omega))
  clear ho ho2 hs H1 S1 hl1
  generalize FlS.new 1 = s1 at *
  go_wp2_with fail
  have hL := load_any p s1 _ w2 H2.out Hfit1.out.ok
  obtain ⟨X, hX⟩ : ∃ x, x = s1.load := ⟨_, rfl⟩
  have hxe : X.2.2 = 1 := by rw [hX]; exact by rw [Hl1.out]
  rw [← hX] at hL
  clear hX
  obtain ⟨R0, pg0, er0⟩ := X
  obtain rfl : er0 = 1 := hxe
  refine hL.mono ?_
  clear hL
  rintro e w3 ⟨iv, rfl, ho, hs⟩
  have HoA := hide (rc_one (s := R0) (iv := iv) (own_slice ho))
  have HsA := hide (rc_info R0 iv)
  have h1 := (on_all_to ho H2.out).right.alloc (.cells (recCells zeroS nilV) 35)
  have gA := on_blk_mul h1
  have H4 := hide (h1.setRow (recCells R0 iv)).right
  have S4 := hide (((S2.out.trans hs).alloc (.cells (recCells zeroS nilV) 35)).setRow w3.heap.size (recCells R0 iv))
  clear ho hs h1 H2 S2
  dsimp only
  try rw [show ((1 : Nat) : Int) = 1 from rfl]
  go_wp2_with (first | (refine wpList_store_row rfl _ _ _ rfl w3.heap.size (recCells R0 iv) rfl rfl _ _ gA HsA.out rfl HoA.out ?_; clear gA) | (refine wpList_build_rc0 rfl rfl ?_))
  generalize (w3.alloc (.cells (recCells zeroS nilV) 35)).setRow w3.heap.size (recCells R0 iv) = w4 at *
  generalize w3.heap.size = gg3 at *
  clear HoA HsA
  have hS := save_any p s1 _ 0 Hfit1.out (by omega) zeroS nilV zeroS_ok (fun W _ => IsBytes.nil W) w4 H4.out
  rw [save_bad (s := s1) (r := zeroS) (by rw [Hl1.out]; decide) (by rw [Hl1.out]; decide), Hl1.out] at hS
  refine hS.mono ?_
  clear hS
  rintro e w5 ⟨iv, rfl, ho, hs⟩
  have HoA := hide (rc_one (s := zeroS) (iv := iv) (own_slice ho))
  have HsA := hide (rc_info zeroS iv)
  have h1 := ho.right.alloc (.cells (recCells zeroS nilV) 35)
  have gA := on_blk_mul h1
  have H6 := hide (h1.setRow (recCells zeroS iv)).right
  have S6 := hide (((S4.out.trans hs).alloc (.cells (recCells zeroS nilV) 35)).setRow w5.heap.size (recCells zeroS iv))
  clear ho hs h1 H4 S4
  dsimp only
  try rw [show ((1 : Nat) : Int) = 1 from rfl]
  go_wp2_with (first | (refine wpList_store_row rfl _ _ _ rfl w5.heap.size (recCells zeroS iv) rfl rfl _ _ gA HsA.out rfl HoA.out ?_; clear gA) | fail)
  generalize (w5.alloc (.cells (recCells zeroS nilV) 35)).setRow w5.heap.size (recCells zeroS iv) = w6 at *
  generalize w5.heap.size = gg5 at *
  clear HoA HsA
  have H7 := hide H6.out.right
  have S7 := hide S6.out
  clear H6 S6 Hl1 Hfit1
  refine (load_nil w6).mono ?_
  rintro e w7 ⟨iv, rfl, ho, hs⟩
  have HoA := hide (rc_one (s := zeroS) (iv := iv) (own_slice ho))
  have HsA := hide (rc_info zeroS iv)
  have h1 := (on_all_to ho H7.out).right.alloc (.cells (recCells zeroS nilV) 35)
  have gA := on_blk_mul h1
  have H8 := hide (h1.setRow (recCells zeroS iv)).right
  have S8 := hide (((S7.out.trans hs).alloc (.cells (recCells zeroS nilV) 35)).setRow w7.heap.size (recCells zeroS iv))
  clear ho hs h1 H7 S7
  dsimp only
  try rw [show ((1 : Nat) : Int) = 1 from rfl]
  go_wp2_with (first | (refine wpList_store_row rfl _ _ _ rfl w7.heap.size (recCells zeroS iv) rfl rfl _ _ gA HsA.out rfl HoA.out ?_; clear gA) | (refine wpList_build_rc0 rfl rfl ?_))
  generalize (w7.alloc (.cells (recCells zeroS nilV) 35)).setRow w7.heap.size (recCells zeroS iv) = w8 at *
  generalize w7.heap.size = gg7 at *
  clear HoA HsA
  refine (save_nil zeroS Option.none 0 0 w8).mono ?_
  rintro e w9 ⟨rfl, ho, hs⟩
  have HoA := hide (rc_one (s := zeroS) (iv := nilV) (⟨_, _, _, rfl⟩))
  have HsA := hide (rc_info zeroS nilV)
  have h1 := (on_all_to (Q := emp) (on_emp_mul.2 ho) H8.out).right.alloc (.cells (recCells zeroS nilV) 35)
  have gA := on_blk_mul h1
  have H10 := hide (h1.setRow (recCells zeroS nilV)).right
  have S10 := hide (((S8.out.trans hs).alloc (.cells (recCells zeroS nilV) 35)).setRow w9.heap.size (recCells zeroS nilV))
  clear ho hs h1 H8 S8
  dsimp only
  try rw [show ((1 : Nat) : Int) = 1 from rfl]
  go_wp2_with (first | (refine wpList_store_row rfl _ _ _ rfl w9.heap.size (recCells zeroS nilV) rfl rfl _ _ gA HsA.out rfl HoA.out ?_; clear gA) | fail)
  generalize (w9.alloc (.cells (recCells zeroS nilV) 35)).setRow w9.heap.size (recCells zeroS nilV) = w10 at *
  generalize w9.heap.size = gg9 at *
  clear HoA HsA
  have hw1 : wrap64 (k : Int) = (k : Int) := IntWalk.wrap64_in _ (by omega)
  have hw2 : wrap64 (2 + (k : Int)) = (2 + (k : Int)) := IntWalk.wrap64_in _ (by omega)
  rw [Hq.out, hw1, hw2, hsum]
  clear hw1 hw2
  have H11 := hide H10.out
  have fitN := FlS.Fit.new (2 + k) (by omega) (by omega)
  refine (new_any (2 + k) (by omega) (by omega) w10).mono ?_
  rintro e w12 ⟨v, rfl, ho, hs⟩
  obtain ⟨p2, rfl, ho2⟩ := newQ.out ho
  have H12 := hide (on_all_to ho2 H11.out)
  have S12 := hide (S10.out.trans hs)
  have Hfit := hide fitN
  clear ho ho2 hs H10 S10 H11 fitN hsum
  generalize FlS.new (2 + k) = s2 at *
  go_wp2_with fail
  have hL := load_any p2 s2 _ w12 H12.out Hfit.out.ok
  obtain ⟨X, hX⟩ : ∃ x, x = s2.load := ⟨_, rfl⟩
  have hxe : X.2.2 = 15 := by rw [hX]; exact Hf1.out
  rw [← hX] at hL
  clear hX
  obtain ⟨R0, pg0, er0⟩ := X
  obtain rfl : er0 = 15 := hxe
  refine hL.mono ?_
  clear hL
  rintro e w13 ⟨iv, rfl, ho, hs⟩
  have HoA := hide (rc_one (s := R0) (iv := iv) (own_slice ho))
  have HsA := hide (rc_info R0 iv)
  have h1 := (on_all_to ho H12.out).right.alloc (.cells (recCells zeroS nilV) 35)
  have gA := on_blk_mul h1
  have H14 := hide (h1.setRow (recCells R0 iv)).right
  have S14 := hide (((S12.out.trans hs).alloc (.cells (recCells zeroS nilV) 35)).setRow w13.heap.size (recCells R0 iv))
  clear ho hs h1 H12 S12
  dsimp only
  try rw [show ((15 : Nat) : Int) = 15 from rfl]
  go_wp2_with (first | (refine wpList_store_row rfl _ _ _ rfl w13.heap.size (recCells R0 iv) rfl rfl _ _ gA HsA.out rfl HoA.out ?_; clear gA) | (refine wpList_build_last rfl rfl ?_))
  generalize (w13.alloc (.cells (recCells zeroS nilV) 35)).setRow w13.heap.size (recCells R0 iv) = w14 at *
  generalize w13.heap.size = gg13 at *
  clear HoA HsA
  have hE := rencode_any lastR nilV w14 ⟨by decide, by decide, by decide, by decide, by decide, by decide⟩ (IsBytes.nil _)
  refine hE.mono ?_
  clear hE
  rintro e w15 hEnd
  obtain ⟨out, rfl, ho, hs⟩ := hEnd.both
  have hee : encErr lastR = 0 := by unfold encErr; rw [if_pos last_right]
  have heg : encGot lastR = recBytes lastR := by unfold encGot; rw [if_pos last_right]
  rw [hee, show ((0 : Nat) : Int) = 0 from rfl]
  rw [heg] at ho
  have h1 := on_all_to ho H14.out
  rw [SP.mul_left_comm] at h1
  have H15 := hide h1
  have S15 := hide (S14.out.trans hs)
  obtain ⟨oa, oc, rfl, _, _, _, _⟩ := own_value ho
  have hln : (recBytes lastR).length = 160 := recBytes_len lastR (by decide)
  have hP := prog_any p2 s2 _ w15 H15.out 0 Hfit.out (by omega) 256 (.slice oa (recBytes lastR).length oc) (recBytes lastR) (by omega) (by rw [hln]) (by omega) (by rw [hln]; decide) (fun W hW => own_bytes hW)
  have fit2 := Hfit.out.prog 256 (recBytes lastR)
  rw [hln] at hP fit2
  have Hfit2 := hide (fit2.mono (show 0 + 160 / 4 ≤ 40 by decide))
  rw [hln]
  clear ho hs hEnd hee heg h1 H14 S14 hln fit2
  obtain ⟨⟨s3, pe⟩, hX⟩ : ∃ x, x = s2.prog 256 (recBytes lastR) := ⟨_, rfl⟩
  rw [← hX] at hP Hfit2 Hf2 Hf3
  clear hX
  generalize recBytes lastR = rb at *
  have hP' : Calls Try.prog 22 #[fptr p2, .int .i64 256, .slice oa 160 oc] w15 _ := hP
  have HP := hide hP'
  clear hP hP'
  go_wp2_with fail
  refine HP.out.mono ?_
  clear HP
  rintro e w16 ⟨rfl, h1, h2⟩
  have H16 := hide h1
  have S16 := hide (S15.out.trans h2)
  clear h1 h2 H15 S15
  go_wp2_with (first | (refine wpList_build_rc0 rfl rfl ?_))
  have hS := save_any p2 s3 _ 40 Hfit2.out (by omega) zeroS nilV zeroS_ok (fun W _ => IsBytes.nil W) w16 H16.out
  rw [save_last (s := s3) (r := zeroS) (.inl Hf2.out.2) Hf2.out.1] at hS
  refine hS.mono ?_
  clear hS
  rintro e w17 ⟨iv, rfl, ho, hs⟩
  have HoA := hide (rc_one (s := zeroS) (iv := iv) (own_slice ho))
  have HsA := hide (rc_info zeroS iv)
  have h1 := ho.right.alloc (.cells (recCells zeroS nilV) 35)
  have gA := on_blk_mul h1
  have H18 := hide (h1.setRow (recCells zeroS iv)).right
  have S18 := hide (((S16.out.trans hs).alloc (.cells (recCells zeroS nilV) 35)).setRow w17.heap.size (recCells zeroS iv))
  clear ho hs h1 H16 S16
  dsimp only
  try rw [show ((16 : Nat) : Int) = 16 from rfl]
  go_wp2_with (first | (refine wpList_store_row rfl _ _ _ rfl w17.heap.size (recCells zeroS iv) rfl rfl _ _ gA HsA.out rfl HoA.out ?_; clear gA) | fail)
  generalize (w17.alloc (.cells (recCells zeroS nilV) 35)).setRow w17.heap.size (recCells zeroS iv) = w18 at *
  generalize w17.heap.size = gg17 at *
  clear HoA HsA
  refine (fail_any p2 s3 _ w18 H18.out 0 0).mono ?_
  rintro e w19 ⟨rfl, h1, h2⟩
  have H19 := hide h1
  have S19 := hide (S18.out.trans h2)
  have hoff := off_now s3 Hf3.out.1 (by rw [Hf3.out.2.2]; omega)
  have fit3 : ({ s3 with armed := true, left := 0, tear := 0 } : FlS).Fit 40 := ⟨⟨Hfit2.out.ok.pages, Hfit2.out.ok.most, Hfit2.out.ok.lf, Hfit2.out.ok.lt, by show 0 ≤ _; omega, by show 0 < _; omega⟩, Hfit2.out.free, Hfit2.out.steps, Hfit2.out.worn⟩
  have hB5 : 512 ≤ ({ s3 with armed := true, left := 0, tear := 0 } : FlS).B.length := by show 512 ≤ s3.B.length; rw [Hf3.out.2.1]; omega
  have Hoff := hide hoff
  have Hfit3 := hide fit3
  have HB5 := hide hB5
  clear h1 h2 H18 S18 hoff fit3 hB5
  generalize ({ s3 with armed := true, left := 0, tear := 0 } : FlS) = s4 at *
  go_wp2_with fail
  refine (era_any p2 s4 _ w19 H19.out 40 Hfit3.out (by omega) 0 (by omega)).mono ?_
  rintro e w20 ⟨rfl, h1, h2⟩
  have H20 := hide h1
  have S20 := hide (S19.out.trans h2)
  have Hl5 := hide (load_off Hoff.out (by rw [FlS.era_length]; exact HB5.out))
  have Hfit5 := hide (Hfit3.out.era 0)
  clear h1 h2 H19 S19 Hoff Hfit3 HB5
  generalize (s4.era 0).1 = s5 at *
  go_wp2_with fail
  have hL := load_any p2 s5 _ w20 H20.out Hfit5.out.ok
  obtain ⟨X, hX⟩ : ∃ x, x = s5.load := ⟨_, rfl⟩
  have hxe : X.2.2 = 5 := by rw [hX]; exact by rw [Hl5.out]
  rw [← hX] at hL
  clear hX
  obtain ⟨R0, pg0, er0⟩ := X
  obtain rfl : er0 = 5 := hxe
  refine hL.mono ?_
  clear hL
  rintro e w21 ⟨iv, rfl, ho, hs⟩
  have HoA := hide (rc_one (s := R0) (iv := iv) (own_slice ho))
  have HsA := hide (rc_info R0 iv)
  have h1 := (on_all_to ho H20.out).right.alloc (.cells (recCells zeroS nilV) 35)
  have gA := on_blk_mul h1
  have H22 := hide (h1.setRow (recCells R0 iv)).right
  have S22 := hide (((S20.out.trans hs).alloc (.cells (recCells zeroS nilV) 35)).setRow w21.heap.size (recCells R0 iv))
  clear ho hs h1 H20 S20
  dsimp only
  try rw [show ((5 : Nat) : Int) = 5 from rfl]
  go_wp2_with (first | (refine wpList_store_row rfl _ _ _ rfl w21.heap.size (recCells R0 iv) rfl rfl _ _ gA HsA.out rfl HoA.out ?_; clear gA) | (refine wpList_build_rc0 rfl rfl ?_))
  generalize (w21.alloc (.cells (recCells zeroS nilV) 35)).setRow w21.heap.size (recCells R0 iv) = w22 at *
  generalize w21.heap.size = gg21 at *
  clear HoA HsA
  have hS := save_any p2 s5 _ 41 Hfit5.out (by omega) zeroS nilV zeroS_ok (fun W _ => IsBytes.nil W) w22 H22.out
  rw [save_bad (s := s5) (r := zeroS) (by rw [Hl5.out]; decide) (by rw [Hl5.out]; decide), Hl5.out] at hS
  refine hS.mono ?_
  clear hS
  rintro e w23 ⟨iv, rfl, ho, hs⟩
  have HoA := hide (rc_one (s := zeroS) (iv := iv) (own_slice ho))
  have HsA := hide (rc_info zeroS iv)
  have h1 := ho.right.alloc (.cells (recCells zeroS nilV) 35)
  have gA := on_blk_mul h1
  have H24 := hide (h1.setRow (recCells zeroS iv)).right
  have S24 := hide (((S22.out.trans hs).alloc (.cells (recCells zeroS nilV) 35)).setRow w23.heap.size (recCells zeroS iv))
  clear ho hs h1 H22 S22
  dsimp only
  try rw [show ((5 : Nat) : Int) = 5 from rfl]
  go_wp2_with (first | (refine wpList_store_row rfl _ _ _ rfl w23.heap.size (recCells zeroS iv) rfl rfl _ _ gA HsA.out rfl HoA.out ?_; clear gA) | fail)
  go_ret
  exact ⟨rfl, all_below H24.out.right.right S24.out⟩
namespace lawSettingsArgs
theorem own : ownKnob Try.prog.godebug = Option.none := by kernel_rfl
theorem laidOut : laidOutB Try.prog = true := by kernel_rfl
set_option maxRecDepth 100000 in
theorem lifted (os : Os) (started : os.Started) (H : Type) (enc : TypeId × Value → H) :
    ReturnsInHanded {} Try.checked os 5 .any (Rows.settingsArgsSpec.pre6 enc Try.prog Try.f5 Rows.settingsArgsRow.domain false) (Rows.settingsArgsSpec.post enc Try.prog Try.f5 false true false false) := by
  refine returnsInHanded_of_change_sized (C := Try.checked) own started (by kernel_rfl) Try.func5
    (ChangeSpec.witness6 (enc := enc) (C := Try.checked) false ⟨#[], #[.int .i64 0], []⟩ 8 (by kernel_rfl) (by kernel_rfl) (by kernel_rfl) (by kernel_rfl)) ?_
  intro W base args ds gs before hval0 hW hcnd hsz _
  have hval : ∀ (j : Nat) t v, Try.f5.params[j]? = some t → args[j]? = some v → Value.okWide Try.prog W .any base t v := hval0
  have hW' := hW
  obtain ⟨p, q, hA0, hV, rfl, hfz, hnd⟩ := hW
  have hA : DataW.TrodAll enc Try.prog W 0 (fun _ => true) true Try.f5.params.toList args.toList ds p := hA0
  rw [Try.params5] at hA hval
  obtain ⟨v0, vs0, d0, ds0, p0, q0, hargs, rfl, rfl, h0, r0⟩ := trodAll_cons hA
  obtain ⟨rfl, rfl, rfl⟩ := trodAll_nil r0
  obtain rfl : args = #[v0] := by cases args; simp_all
  obtain ⟨rfl, rfl⟩ := trodVars_none hV
  have k0 := h0
  have lt0 : ∀ x ∈ p0, x.block < W.heap.size := by obtain ⟨m, hm⟩ := k0; exact DataW.trod_lt m _ _ _ hm
  obtain ⟨a0, rfl, rfl, rfl, w0⟩ := open_int Try.underlying3 (hval 0 3 v0 rfl rfl) h0
  obtain ⟨l0, u0⟩ := wf_i64 w0
  clear hA0 hval0 hsz
  refine (walk_SettingsArgs W a0 l0 u0).mono fun e W' ⟨he, bel⟩ => ?_
  subst he
  exact ⟨_, rfl, _, _, _, [], _, [], hW', trodAll_mk1 (shut_bool Try.underlying4 _), (trodAll_cons_mk (shut_int Try.underlying3 w0) trodAll_mk0), rfl, bel.frame _, fun h => by cases h⟩

theorem over : Rows.settingsArgsRow.holds Try.pinned (OpenSpec.ofChange Rows.settingsArgsSpec) :=
  OpenClaim.holds_of_wide 5 Try.f5 rfl rfl rfl rfl rfl rfl rfl ⟨rfl, rfl, rfl, rfl, rfl⟩ rfl rfl rfl rfl rfl (by kernel_rfl) Try.func5 (by kernel_rfl)
    (of_decide_eq_true (by kernel_rfl)) (by unfold Func.isWrapper; first | (rw [if_pos (by decide +kernel)]; kernel_rfl) | (rw [if_neg (by decide +kernel)]; exact ⟨rfl, rfl⟩))
    (fun os started H enc _ => lifted os started H enc)

theorem proved : Rows.SettingsArgsSaid := over
end lawSettingsArgs
end Go.Proofs.Ytjdebgbiockafaa
