/- The law TransferArgs: no flash, and too little; without power. -/
import Derived.Test.YtjdebgbiockafaaTr8

namespace Go.Proofs.Ytjdebgbiockafaa
open Go.ChangeShapes Go.WideShapes Go.ChangeAt Go.RowKit
set_option linter.unusedVariables false
set_option linter.unusedSimpArgs false

theorem um60 (t : Int) : ∃ k : Nat, k < 60 ∧ (IntKind.u64.wrap t).tmod 60 = (k : Int) := by
  have h0 : 0 ≤ IntKind.u64.wrap t := by rw [IntKind.wrap_u64]; omega
  refine ⟨((IntKind.u64.wrap t) % 60).toNat, by omega, ?_⟩
  rw [Int.tmod_eq_emod_of_nonneg h0]
  omega
theorem load_row_t {P : Program} {ops : Array Oper} {rest : List Oper} {o : Oper} {a : Act} {w : World} {Q : Exit → Act → World → Prop} (hw : Region.wanted o (yielded ops a.tmps) = true) (ty : TypeId) (x : Operand) (ho : o.op = .load ty x)
    (g : Nat) (hx : a.eval x = .pointer (some ⟨g, 0, Option.none⟩)) (t : TypeId) (cs : Array Value) (fr : Nat × Nat) (d : TypeDesc) (hg : w.heap[g]? = some (.cells cs t fr))
    (hu : P.underlying ty = some d) (hd : (match d with | .struct _ | .array _ _ => true | _ => false) = true) (hi : (P.info? ty).map (·.size) = some cs.size)
    (h : wpList P ops Q rest (a.put o.dst (.agg cs)) w) : wpList P ops Q (o :: rest) a w :=
  wpList_step fun K hK => by rw [if_pos hw]; exact wp_load_row ty x ho g hx t cs fr d hg hu hd hi (hK _ _ h)
/-- the power goes in the next step: an erasure leaves it off -/
theorem off_now (s : FlS) (h : s.off = false) (hw : 0 < s.worn.length) : (({ s with armed := true, left := 0, tear := 0 } : FlS).era 0).1.off = true := by
  unfold FlS.era
  rw [if_neg (by simp [h]), if_neg (by show ¬ s.worn.length ≤ 0; omega)]
  simp [FlS.eraS, FlS.step, FlS.fails]
theorem load_off {s : FlS} (h : s.off = true) (hB : 512 ≤ s.B.length) : s.load = (zeroS, 0, 5) := by
  unfold FlS.load
  rw [if_neg (by omega), if_pos h]
theorem load_small {s : FlS} (hB : s.B.length < 512) : s.load = (zeroS, 0, 1) := by
  unfold FlS.load
  rw [if_pos hB]

theorem build_rc0_t {ops : Array Oper} {rest : List Oper} {o : Oper} {a : Act} {w : World} {Q : Exit → Act → World → Prop} (hw : Region.wanted o (yielded ops a.tmps) = true) (ho : o.op = .build 35 #[])
    (hk : wpList Try.prog ops Q rest (a.put o.dst (.agg (recCells zeroS nilV))) w) : wpList Try.prog ops Q (o :: rest) a w := by
  have hr : (execOp a.eval o).run Try.prog w = .ok (.value (.agg (recCells zeroS nilV))) w := by
    unfold execOp
    rw [ho]
    simp only [List.map_toArray, List.map_nil]
    rw [Sem.run_bind, rc_build0]
    rfl
  exact wpList_step fun K hK => by
    rw [if_pos hw]
    unfold Oper.wp
    simp only [hr]
    exact hK _ _ hk
theorem zgot : zeroS.got = ([], 0) := rfl
theorem few_err (n : Nat) (h : n < 34) : (FlS.new n).kErr = 1 := by
  have : (FlS.new n).B.length = n * 256 := by simp [FlS.new]
  unfold FlS.kErr
  rw [if_pos (by omega)]
theorem many_err (n : Nat) (h : 34 ≤ n) : (FlS.new n).kErr = 0 := by
  have : (FlS.new n).B.length = n * 256 := by simp [FlS.new]
  unfold FlS.kErr
  rw [if_neg (by omega), new_load n (by omega), if_neg (fun c => c.2 rfl)]
theorem off_err {s : FlS} (h : s.off = true) (hB : 8704 ≤ s.B.length) : s.kErr = 5 := by
  unfold FlS.kErr
  rw [if_neg (by omega), load_off h (by omega), if_pos ⟨by decide, by decide⟩]
theorem off_start {s : FlS} (h : s.off = true) (hB : 8704 ≤ s.B.length) (R : RecS) (init : List UInt8) : kStart s R init = (s, R, 5) := by
  have hl := load_off h (show 512 ≤ s.B.length by omega)
  have hr : kRem s R 0 0 [] = (s, R, 5) := by
    unfold kRem
    rw [save_bad (by rw [hl]; decide) (by rw [hl]; decide), hl]
    rfl
  unfold kStart
  rw [hr, if_pos (show (5 : Nat) ≠ 0 by decide)]
theorem put_none (s : FlS) (b : List UInt8) : kPut s zeroS b = (s, zeroS, 16) := by
  unfold kPut
  rw [if_pos (by decide)]

set_option maxRecDepth 100000 in
set_option maxHeartbeats 32000000 in
theorem walk_TransferArgs (w : World) (a0 : Int) (l0 : -9223372036854775808 ≤ a0) (u0 : a0 ≤ 9223372036854775807) :
    Calls Try.prog 8 #[.int .i64 a0] w fun e w' => e = .returned (.bool true) ∧ Below w.heap.size w w' := by
  have hur := Try.underlying35
  have hui := Try.underlying3
  have huu := Try.underlying24
  have hz := rc_hz
  have hlive := lives18_any w
  obtain ⟨k, hk, hq⟩ := um60 a0
  have hsum : (1 : Int) + (k : Int) = ((1 + k : Nat) : Int) := by omega
  have Hq := hide hq
  clear hq
  go_enter Try.func8, Try.ntmps8
  go_wp2_with fail
  refine hlive.mono ?_
  clear hlive
  rintro e w1 ⟨rfl, hb⟩
  have H1 := hide ((on_all w).below hb)
  have S1 := hide (Str.below hb)
  clear hb
  go_wp2_with fail
  have hw1 : wrap64 (k : Int) = (k : Int) := IntWalk.wrap64_in _ (by omega)
  have hw2 : wrap64 (1 + (k : Int)) = (1 + (k : Int)) := IntWalk.wrap64_in _ (by omega)
  rw [Hq.out, hw1, hw2, hsum]
  obtain ⟨n, hn⟩ : ∃ n, n = 1 + k := ⟨_, rfl⟩
  have n1 : 1 ≤ n := by omega
  have n2 : n ≤ 60 := by omega
  rw [← hn]
  clear hw1 hw2 hsum Hq hk hn
  refine (new_any n (by omega) (by omega) w1).mono ?_
  rintro e w2 ⟨v, rfl, ho, hs⟩
  obtain ⟨p, rfl, ho2⟩ := newQ.out ho
  have H2 := hide (on_all_to ho2 H1.out)
  have S2 := hide (S1.out.trans hs)
  have Hfit := hide (FlS.Fit.new n (by omega) (by omega))
  have Hfew := hide (few_err n)
  have Hmany := hide (many_err n)
  have Hld := hide (fun h : 34 ≤ n => congrArg (·.1) (new_load n (by omega)))
  have Hp := hide (show (FlS.new n).off = false ∧ (FlS.new n).worn.length = n ∧ (FlS.new n).B.length = n * 256 from ⟨rfl, by simp [FlS.new], by simp [FlS.new]⟩)
  clear ho ho2 hs H1 S1
  generalize FlS.new n = s0 at *
  go_wp2_with fail
  refine (tnew_nil w2).mono ?_
  rintro e w3 ⟨rfl, rfl⟩
  have hT := tnew_any p s0 _ w2 H2.out Hfit.out.ok
  by_cases hc : n < 34
  · have hcI : (n : Int) < 34 := by omega
    have Hke := hide (Hfew.out hc)
    clear hc
    go_wp2_with fail
    refine hT.mono ?_
    clear hT
    rintro e w4 (⟨_, rfl, h, hs⟩ | ⟨h0, _⟩)
    · have HB := hide (all_below h.right (S2.out.trans hs))
      clear h hs
      rw [Hke.out]
      rw [show ((1 : Nat) : Int) = 1 from rfl]
      go_wp2_with fail
      go_ret
      exact ⟨rfl, HB.out⟩
    · exact absurd h0 (by rw [Hke.out]; decide)
  · have hcI : ¬ (n : Int) < 34 := by omega
    have Hke := hide (Hmany.out (by omega))
    have Hl := hide (Hld.out (by omega))
    go_wp2_with fail
    refine hT.mono ?_
    clear hT
    rintro e w4 (⟨h0, _⟩ | ⟨_, q, rfl, h4, hs⟩)
    · exact absurd Hke.out h0
    rw [show s0.load.1 = zeroS from Hl.out] at h4
    have H4 := hide h4
    have S4 := hide (S2.out.trans hs)
    clear h4 hs H2 S2
    go_wp2_with fail
    refine (kload_any q p zeroS _ w4 H4.out zeroS_ok).mono ?_
    rintro e w5 ⟨v, rfl, ho, hs⟩
    rw [zgot] at ho ⊢
    have H5 := hide (on_all_to ho H4.out).right
    have S5 := hide (S4.out.trans hs)
    obtain ⟨xa, xc, rfl, _⟩ := own_bytes ho
    clear ho hs H4 S4
    rw [show ((([], 0) : List UInt8 × Nat).2 : Int) = 0 from rfl, show (([], 0) : List UInt8 × Nat).1.length = 0 from rfl]
    go_wp2_with fail
    refine (krecord_any q p zeroS _ w5 H5.out zeroS_ok).mono ?_
    rintro e w6 ⟨iv, rfl, ho, hs⟩
    have HoA := hide (rc_one (s := zeroS) (iv := iv) (own_slice ho))
    have HsA := hide (rc_info zeroS iv)
    have h1 := (on_all_to ho H5.out).alloc (.cells (recCells zeroS nilV) 35)
    have gA := on_blk_mul h1
    have h2 := h1.setRow (recCells zeroS iv)
    have gB := on_blk_mul h2
    have hi : IsBytes _ iv [] := own_bytes h2.right
    have hE := zsame_any iv _ hi
    have H7 := hide h2.right.right
    have S7 := hide (((S5.out.trans hs).alloc (.cells (recCells zeroS nilV) 35)).setRow w6.heap.size (recCells zeroS iv))
    clear ho hs h1 h2 hi H5 S5
    go_wp2_with (first
      | (refine wpList_store_row rfl _ _ _ rfl w6.heap.size (recCells zeroS iv) rfl rfl _ _ gA HsA.out rfl HoA.out ?_; clear gA)
      | (refine load_row_t rfl _ _ rfl w6.heap.size rfl _ _ _ _ gB hur rfl HsA.out ?_; clear gB)
      | (refine build_rc0_t rfl rfl ?_))
    generalize (w6.alloc (.cells (recCells zeroS nilV) 35)).setRow w6.heap.size (recCells zeroS iv) = w7 at *
    generalize w6.heap.size = gg at *
    clear HoA HsA
    refine hE.mono ?_
    clear hE
    rintro e w8 ⟨rfl, hb⟩
    have H8 := hide (H7.out.below hb)
    have S8 := hide (S7.out.trans (Str.below hb))
    clear hb H7 S7
    go_wp2_with fail
    have hP := kput_any q p zeroS s0 _ 0 Hfit.out (by omega) (by rw [Hp.out.2.1]; omega) zeroS_ok (by decide) nilV [] (fun W _ => IsBytes.nil W) w8 H8.out
    rw [put_none] at hP
    refine hP.mono ?_
    clear hP
    rintro e w9 ⟨rfl, h, hs⟩
    replace h : (Kp q p zeroS * (Flash p s0 * all w)).on w9 := h
    rw [SP.mul_left_comm] at h
    have H9 := hide h
    have S9 := hide (S8.out.trans hs)
    clear h hs H8 S8
    rw [show ((s0, zeroS, 16) : FlS × RecS × Nat).2.2 = 16 from rfl, show ((16 : Nat) : Int) = 16 from rfl]
    go_wp2_with fail
    refine (fail_any p s0 _ w9 H9.out 0 0).mono ?_
    rintro e w10 ⟨rfl, h1, h2⟩
    have H10 := hide h1
    have S10 := hide (S9.out.trans h2)
    have hoff := off_now s0 Hp.out.1 (by rw [Hp.out.2.1]; omega)
    have fit3 : ({ s0 with armed := true, left := 0, tear := 0 } : FlS).Fit 0 := ⟨⟨Hfit.out.ok.pages, Hfit.out.ok.most, Hfit.out.ok.lf, Hfit.out.ok.lt, by show 0 ≤ _; omega, by show 0 < _; omega⟩, Hfit.out.free, Hfit.out.steps, Hfit.out.worn⟩
    have hB5 : 8704 ≤ ({ s0 with armed := true, left := 0, tear := 0 } : FlS).B.length := by show 8704 ≤ s0.B.length; rw [Hp.out.2.2]; omega
    have hw5 : 34 ≤ ({ s0 with armed := true, left := 0, tear := 0 } : FlS).worn.length := by show 34 ≤ s0.worn.length; rw [Hp.out.2.1]; omega
    have Hoff := hide hoff
    have Hfit3 := hide fit3
    have HB5 := hide (And.intro hB5 hw5)
    clear h1 h2 H9 S9 hoff fit3 hB5 hw5
    generalize ({ s0 with armed := true, left := 0, tear := 0 } : FlS) = s4 at *
    go_wp2_with fail
    refine (era_any p s4 _ w10 H10.out 0 Hfit3.out (by omega) 0 (by omega)).mono ?_
    rintro e w11 ⟨rfl, h1, h2⟩
    have H11 := hide h1
    have S11 := hide (S10.out.trans h2)
    have He5 := hide (off_err Hoff.out (by rw [FlS.era_length]; exact HB5.out.1))
    have Hs5 := hide (off_start Hoff.out (by rw [FlS.era_length]; exact HB5.out.1) zeroS [])
    have Hfit5 := hide (Hfit3.out.era 0)
    have Hw5 := hide (show 34 ≤ (s4.era 0).1.worn.length by rw [FlS.era_wornlen]; exact HB5.out.2)
    clear h1 h2 H10 S10 Hoff Hfit3 HB5
    generalize (s4.era 0).1 = s5 at *
    go_wp2_with fail
    refine (tnew_any p s5 _ w11 H11.out Hfit5.out.ok).mono ?_
    rintro e w12 (⟨_, rfl, h, hs⟩ | ⟨h0, _⟩)
    · rw [SP.mul_left_comm] at h
      have H12 := hide h
      have S12 := hide (S11.out.trans hs)
      clear h hs H11 S11
      rw [He5.out, show ((5 : Nat) : Int) = 5 from rfl]
      go_wp2_with fail
      have hP := kstart_any q p zeroS s5 _ _ Hfit5.out (by omega) Hw5.out zeroS_ok nilV [] (by decide) (fun W _ => IsBytes.nil W) w12 H12.out
      rw [Hs5.out] at hP
      refine hP.mono ?_
      clear hP
      rintro e w13 ⟨rfl, h, hs⟩
      have HB := hide (all_below h.right.right (S12.out.trans hs))
      clear h hs H12 S12
      rw [show ((s5, zeroS, 5) : FlS × RecS × Nat).2.2 = 5 from rfl, show ((5 : Nat) : Int) = 5 from rfl]
      go_wp2_with fail
      go_ret
      exact ⟨rfl, HB.out⟩
    · exact absurd h0 (by rw [He5.out]; decide)
namespace lawTransferArgs
theorem own : ownKnob Try.prog.godebug = Option.none := by kernel_rfl
theorem laidOut : laidOutB Try.prog = true := by kernel_rfl
set_option maxRecDepth 100000 in
theorem lifted (os : Os) (started : os.Started) (H : Type) (enc : TypeId × Value → H) :
    ReturnsInHanded {} Try.checked os 8 .any (Rows.transferArgsSpec.pre6 enc Try.prog Try.f8 Rows.transferArgsRow.domain false) (Rows.transferArgsSpec.post enc Try.prog Try.f8 false true false false) := by
  refine returnsInHanded_of_change_sized (C := Try.checked) own started (by kernel_rfl) Try.func8
    (ChangeSpec.witness6 (enc := enc) (C := Try.checked) false ⟨#[], #[.int .i64 0], []⟩ 8 (by kernel_rfl) (by kernel_rfl) (by kernel_rfl) (by kernel_rfl)) ?_
  intro W base args ds gs before hval0 hW hcnd hsz _
  have hval : ∀ (j : Nat) t v, Try.f8.params[j]? = some t → args[j]? = some v → Value.okWide Try.prog W .any base t v := hval0
  have hW' := hW
  obtain ⟨p, q, hA0, hV, rfl, hfz, hnd⟩ := hW
  have hA : DataW.TrodAll enc Try.prog W 0 (fun _ => true) true Try.f8.params.toList args.toList ds p := hA0
  rw [Try.params8] at hA hval
  obtain ⟨v0, vs0, d0, ds0, p0, q0, hargs, rfl, rfl, h0, r0⟩ := trodAll_cons hA
  obtain ⟨rfl, rfl, rfl⟩ := trodAll_nil r0
  obtain rfl : args = #[v0] := by cases args; simp_all
  obtain ⟨rfl, rfl⟩ := trodVars_none hV
  have k0 := h0
  have lt0 : ∀ x ∈ p0, x.block < W.heap.size := by obtain ⟨m, hm⟩ := k0; exact DataW.trod_lt m _ _ _ hm
  obtain ⟨a0, rfl, rfl, rfl, w0⟩ := open_int Try.underlying3 (hval 0 3 v0 rfl rfl) h0
  obtain ⟨l0, u0⟩ := wf_i64 w0
  clear hA0 hval0 hsz
  refine (walk_TransferArgs W a0 l0 u0).mono fun e W' ⟨he, bel⟩ => ?_
  subst he
  exact ⟨_, rfl, _, _, _, [], _, [], hW', trodAll_mk1 (shut_bool Try.underlying4 _), (trodAll_cons_mk (shut_int Try.underlying3 w0) trodAll_mk0), rfl, bel.frame _, fun h => by cases h⟩

theorem over : Rows.transferArgsRow.holds Try.pinned (OpenSpec.ofChange Rows.transferArgsSpec) :=
  OpenClaim.holds_of_wide 8 Try.f8 rfl rfl rfl rfl rfl rfl rfl ⟨rfl, rfl, rfl, rfl, rfl⟩ rfl rfl rfl rfl rfl (by kernel_rfl) Try.func8 (by kernel_rfl)
    (of_decide_eq_true (by kernel_rfl)) (by unfold Func.isWrapper; first | (rw [if_pos (by decide +kernel)]; kernel_rfl) | (rw [if_neg (by decide +kernel)]; exact ⟨rfl, rfl⟩))
    (fun os started H enc _ => lifted os started H enc)

theorem proved : Rows.TransferArgsSaid := over
end lawTransferArgs
end Go.Proofs.Ytjdebgbiockafaa
