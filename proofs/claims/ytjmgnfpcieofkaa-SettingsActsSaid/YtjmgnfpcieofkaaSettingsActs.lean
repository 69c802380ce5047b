/- The law SettingsActs: acts upon the flash and the settings, both beside the document's answer. -/
import Derived.Test.YtjmgnfpcieofkaaSAct2
import Derived.Test.YtjmgnfpcieofkaaGRfl
import Derived.Test.YtjmgnfpcieofkaaSet6
import Derived.Deep.QuietTactic
import Derived.BigQuiet

namespace Go.Proofs.Ytjmgnfpcieofkaa
open Go.ChangeShapes Go.WideShapes Go.ChangeAt Go.RowKit
set_option linter.unusedVariables false
set_option linter.unusedSimpArgs false

theorem um4a (t : Int) : ∃ k : Nat, k < 4 ∧ (IntKind.u64.wrap t).tmod 4 = (k : Int) := by
  have h0 : 0 ≤ IntKind.u64.wrap t := by rw [IntKind.wrap_u64]; omega
  refine ⟨((IntKind.u64.wrap t) % 4).toNat, by omega, ?_⟩
  rw [Int.tmod_eq_emod_of_nonneg h0]
  omega
theorem actC_one (k : UInt8) (n : Int) (t : Nat) (r : RecS) (a : Option Addr) (m c : Nat) : (actC ⟨k, n, t, r, .slice a m c⟩).all Value.oneCell' = true := by
  first | rfl | simp [actC, Value.oneCell']
theorem actC_info (y : ActS) : (Try.prog.info? 37).map (·.size) = some (actC y).size := by
  show _ = some 10
  kernel_rfl

theorem sp_c3 (A B C D : SP) : A * (B * (C * D)) = B * (C * (A * D)) := by ac_rfl
theorem sp_c3r (A B C D : SP) : A * (B * (C * D)) = C * (A * (B * D)) := by ac_rfl
theorem sact_inAll {w w' : World} {v : Value} {l : List UInt8} (h : IsBytes w v l) (ha : (all w).on w') : IsBytes w' v l := by
  obtain ⟨a, c, rfl, h1, h2, h3, h4⟩ := h
  refine ⟨a, c, rfl, h1, h2, fun i v e => ?_, h4⟩
  obtain ⟨b, off, ea, hc⟩ := h3 i v e
  refine ⟨b, off, ea, ?_⟩
  obtain ⟨x, hs, p⟩ := ha
  have hb := World.block_lt_of_cell? _ _ hc
  have e1 : w'.heap[b]? = w.heap[b]? := by
    have e0 : w.heap[b]? = some (w.heap[b]'hb) := Array.getElem?_eq_getElem hb
    rw [e0]
    exact hs b _ ((p b hb).trans e0)
  have : w'.cell? ⟨b, off + i, Option.none⟩ = w.cell? ⟨b, off + i, Option.none⟩ := by
    unfold World.cell?
    simp only [e1]
  rw [this]
  exact hc
abbrev zeroY : ActS := ⟨0, 0, 0, zeroS, nilV⟩
theorem act_hz (X : World) : (zeroValue 37).run Try.prog X = .ok (.agg (actC zeroY)) X := by kernel_rfl

set_option maxRecDepth 100000 in
set_option maxHeartbeats 32000000 in
theorem walk_SettingsActs (w : World) (a0 : Int) (l0 : -9223372036854775808 ≤ a0) (u0 : a0 ≤ 9223372036854775807)
    (v1 : Value) (L : List ActS) (b1 : IsRowsC 10 actC w v1 L) (g1 : ∀ y ∈ L, y.Good w) :
    Calls Try.prog 3 #[.int .i64 a0, v1] w fun e w' => e = .returned (.bool true) ∧ Below w.heap.size w w' := by
  have hua := Try.underlying37
  have hur := Try.underlying35
  have hui := Try.underlying3
  have huu := Try.underlying24
  have hsu := Try.underlying33
  have hsb := Try.underlying5
  have hst := Try.underlying9
  have hufl := Try.underlying44
  have hz := act_hz
  have hlive := lives14_any w
  obtain ⟨la, lc, rfl, hlc, hlm, hcell⟩ := b1
  have B0 := hide (show IsRowsC 10 actC w (.slice la L.length lc) L from ⟨_, _, rfl, hlc, hlm, hcell⟩)
  have C0 := hide hcell
  have G0 := hide g1
  clear hcell g1
  unfold maxLen at hlm
  obtain ⟨k, hk, hq⟩ := um4a a0
  have Hq := hide hq
  clear hq
  go_enter Try.func3, Try.ntmps3
  go_wp2_with fail
  refine hlive.mono ?_
  clear hlive
  rintro e w1 ⟨rfl, hb⟩
  by_cases hL : 40 < L.length
  · have hl2 := lives14_any w1
    have HB := hide hb
    clear hb
    go_wp2_with fail
    refine hl2.mono ?_
    rintro e w2 ⟨rfl, hb2⟩
    go_wp2_with fail
    go_ret
    exact ⟨rfl, HB.out.trans (hb2.mono HB.out.size)⟩
  have H1 := hide ((on_all w).below hb)
  have S1 := hide (Str.below hb)
  clear hb
  go_wp2_with fail
  have hw1 : wrap64 (k : Int) = (k : Int) := IntWalk.wrap64_in _ (by omega)
  have hw2 : wrap64 (1 + (k : Int)) = (1 + (k : Int)) := IntWalk.wrap64_in _ (by omega)
  have hk1 : (1 : Int) + (k : Int) = ((1 + k : Nat) : Int) := by omega
  rw [Hq.out, hw1, hw2, hk1]
  clear hw1 hw2 hk1
  refine (new_any (1 + k) (by omega) (by omega) w1).mono ?_
  rintro e w2 ⟨v, rfl, ho, hs⟩
  obtain ⟨p, rfl, ho2⟩ := newQ.out ho
  have H2 := hide (on_all_to ho2 H1.out)
  have S2 := hide (S1.out.trans hs)
  clear ho ho2 hs H1 S1
  go_wp2_with fail
  refine (rnew_any (1 + k) (by omega) (by omega) w2).mono ?_
  rintro e w3 ⟨v, rfl, ho, hs⟩
  obtain ⟨q, rfl, ho2⟩ := rnewQ.out ho
  have h3 := on_all_to ho2 H2.out
  rw [SP.mul_left_comm] at h3
  have H3 := hide h3
  have S3 := hide (S2.out.trans hs)
  have Hfit := hide (FlS.Fit.new (1 + k) (by omega) (by omega))
  clear ho ho2 hs H2 S2 h3
  generalize FlS.new (1 + k) = s at *
  go_wp2_with fail
  go_loopw [41] (fun i wr => ∃ (j : Nat) (s : FlS), j ≤ L.length ∧ i = .int .i64 j ∧ s.Fit (j * 400) ∧ (Flash p s * (RFlash q s * all w)).on wr ∧ Str w wr) (fun i _ => L.length - (intOf i).toNat)
  case atStart => exact ⟨0, s, by omega, rfl, Hfit.out.mono (by omega), H3.out, S3.out⟩
  case round =>
    clear H3 S3 Hfit
    obtain ⟨j, s, hj, rfl, hfit, hw, hstr⟩ := hrel
    by_cases hjl : j < L.length
    · obtain ⟨y, hju⟩ : ∃ y, L[j]? = some y := ⟨_, List.getElem?_eq_getElem hjl⟩
      have hB := all_below hw.right.right hstr
      have hgu := G0.out _ (List.mem_of_getElem? hju)
      obtain ⟨b, off, rfl, _⟩ := C0.out _ _ hju
      have hcx := B0.out.cell hB j hju
      obtain ⟨yk, yn, yt, yr, yv⟩ := y
      obtain ⟨hy1, hy2, hy3, hy4, hy5⟩ := hgu
      simp only at hy1 hy2 hy3 hy4 hy5
      have HBX := hide hy5
      obtain ⟨xa, xc, rfl, hxc, hxm, _, _⟩ := hy5
      unfold maxLen at hxm
      have Hcx := hide hcx
      have Hfit := hide hfit
      have h1 := hw.alloc (.cells (actC zeroY) 37)
      have h5 := h1.setRow (actC ⟨yk, yn, yt, yr, .slice xa yr.init.length xc⟩)
      have gA := hide (on_blk_mul h1)
      have c9 : ((wr.alloc (.cells (actC zeroY) 37)).setRow wr.heap.size (actC ⟨yk, yn, yt, yr, .slice xa yr.init.length xc⟩)).cell? ⟨wr.heap.size, 9, Option.none⟩ = some (.slice xa yr.init.length xc) := cell_of_row _ _ 9 _ _ _ (on_blk_mul h5)
      have H5 := hide h5
      have S5 := hide ((hstr.alloc (.cells (actC zeroY) 37)).setRow wr.heap.size (actC ⟨yk, yn, yt, yr, .slice xa yr.init.length xc⟩))
      have Hone := hide (actC_one yk yn yt yr xa yr.init.length xc)
      have Hsz := hide (actC_info ⟨yk, yn, yt, yr, .slice xa yr.init.length xc⟩)
      have Hnums := hide hy4
      clear hw hstr hB hcx h1 h5 hju hfit hy4
      have hstop : ∀ p : Prop, Hid p → p := fun _ h => h.out
      go_wp2_with (first
        | (refine wpList_load_part rfl _ _ rfl b (off + j * 10) rfl (actC ⟨yk, yn, yt, yr, .slice xa yr.init.length xc⟩) _ Hcx.out hua rfl Hsz.out ?_)
        | (refine wpList_store_row rfl _ _ _ rfl wr.heap.size (actC ⟨yk, yn, yt, yr, .slice xa yr.init.length xc⟩) rfl rfl _ _ gA.out Hsz.out rfl Hone.out ?_; refine hstop _ ?_))
      refine hide ?_
      clear hstop gA Hone Hcx
      generalize (wr.alloc (.cells (actC zeroY) 37)).setRow wr.heap.size (actC ⟨yk, yn, yt, yr, .slice xa yr.init.length xc⟩) = W6 at *
      generalize wr.heap.size = g11 at *
      by_cases h200 : 200 < yr.init.length
      · go_wp2_with fail
        go_ret
        exact ⟨rfl, all_below H5.out.right.right.right S5.out⟩
      have g11b := on_blk_mul H5.out
      have h6 := H5.out
      rw [sp_c3] at h6
      have hok := Hnums.out.ok (by omega)
      have hP := step14_any p q s _ (j * 400) Hfit.out (by omega) ⟨yk, yn, yt, yr, .slice xa yr.init.length xc⟩ hy1 hy2 hy3 hok (fun W hW => sact_inAll HBX.out hW.right) W6 h6
      have HP := hide hP
      clear h6 hok hP
      have hd9 : decide ((200 : Int) < (yr.init.length : Int)) = false := by rw [decide_eq_false_iff_not]; omega
      go_wp2_with (first | (refine wpList_load_row_g (by kernel_rfl) _ _ rfl g11 rfl _ (actC ⟨yk, yn, yt, yr, .slice xa yr.init.length xc⟩) _ _ g11b hua rfl Hsz.out ?_) | fail)
      refine HP.out.mono ?_
      clear HP g11b c9
      rintro e W7 ⟨rfl, s2, hf2, _, h7, hs7⟩
      have H7 := hide (SP.le.on (SP.le.mul (SP.le.refl _) (SP.le.mul (SP.le.refl _) (SP.le_right _ _))) h7)
      have S7 := hide (S5.out.trans hs7)
      have Hf2 := hide hf2
      clear h7 hs7 hf2 H5 S5
      go_wp2_with fail
      exact ⟨⟨j + 1, s2, by omega, by simp, Hf2.out.mono (by omega), H7.out, S7.out⟩, by simp [intOf]; omega⟩
    · have hjb : j = L.length := by omega
      subst hjb
      have H6 := hide hw
      have S6 := hide hstr
      have HP := hide (power_any p s _ wr hw)
      have Hfit := hide hfit
      clear hw hstr hfit
      go_wp2_with fail
      refine HP.out.mono ?_
      clear HP H6
      rintro e W7 ⟨⟨_, rfl⟩, h7, hs7⟩
      replace h7 : (Flash p s.power * (RFlash q s * all w)).on W7 := h7
      have okp := Hfit.out.power.ok
      have hZ := size_any p s.power _ W7 h7 okp
      have hR := flread_any p s.power _ W7 h7 okp rfl 0 s.power.B.length (by omega)
      rw [List.drop_zero, List.take_length] at hR
      have HR := hide hR
      have H7 := hide h7
      have S7 := hide (S6.out.trans hs7)
      clear h7 hs7 okp hR S6
      have heB : s.power.B = s.B := rfl
      rw [heB] at hZ HR
      go_wp2_with fail
      refine hZ.mono ?_
      clear hZ
      rintro e W8 ⟨rfl, rfl⟩
      go_wp2_with fail
      refine HR.out.mono ?_
      clear HR
      rintro e W9 ⟨v, rfl, ho, hs⟩
      obtain ⟨x, rfl, h3⟩ := readQ.out ho
      have h9 := on_all_to h3 H7.out
      have S9 := hide (S7.out.trans hs)
      rw [sp_c3r] at h9
      obtain ⟨gb, cap, vw, hc1, hc2, h10⟩ := RFlash.parts h9 Hfit.out.ok
      have c0 : W9.cell? ⟨q, 0, Option.none⟩ = some (.slice (some ⟨gb, 0, Option.none⟩) s.B.length cap) := cell_of_row _ _ 0 _ _ _ (on_blk_mul h10)
      have hby := own_bytes h10.right
      have hbx := own_bytes h9.right
      have hall := all_below h9.right.right.right S9.out
      obtain ⟨xa, xc, rfl, hxc, hxm, hxl, _⟩ := hbx
      obtain ⟨ya, yc, hye, hyc, hym, hyl, _⟩ := hby
      simp only [Value.slice.injEq] at hye
      obtain ⟨rfl, _, rfl⟩ := hye
      have k2 := fun n => run_string_of (P := Try.prog) (w := W9.drewN n) (c := xc) hsu hsb (show Lay (W9.drewN n) xa (vbs s.B) from fun i v e => by
        obtain ⟨b, off, h1, h2⟩ := hxl i v e
        exact ⟨b, off, h1, by simpa using h2⟩) _ hst
      have k3 := fun n => run_string_of (P := Try.prog) (w := W9.drewN n) (c := cap) hsu hsb (show Lay (W9.drewN n) (some ⟨gb, 0, Option.none⟩) (vbs s.B) from fun i v e => by
        obtain ⟨b, off, h1, h2⟩ := hyl i v e
        exact ⟨b, off, h1, by simpa using h2⟩) _ hst
      have H9 := hide h9
      have S9b := hide S9
      clear hxl hyl h9 h10 ho h3 hs H7 S7 S9 hall
      generalize strOf s.B = sx at k2 k3
      go_wp2_with fail
      go_quiet (fail)
      go_wp2_with fail
      go_ret
      have HWc := SP.on_of_heap (w' := W9.drewN nq) H9.out rfl
      have HSc : Str w (W9.drewN nq) := ⟨S9b.out.os, S9b.out.tape, S9b.out.output, S9b.out.size⟩
      exact ⟨rfl, all_below HWc.right.right.right HSc⟩
namespace lawSettingsActs
theorem own : ownKnob Try.prog.godebug = Option.none := by kernel_rfl
theorem laidOut : laidOutB Try.prog = true := by kernel_rfl
set_option maxRecDepth 100000 in
theorem lifted (os : Os) (started : os.Started) (H : Type) (enc : TypeId × Value → H) :
    ReturnsInHanded {} Try.checked os 3 .any (Rows.settingsActsSpec.pre6 enc Try.prog Try.f3 Rows.settingsActsRow.domain false) (Rows.settingsActsSpec.post enc Try.prog Try.f3 false true false false) := by
  refine returnsInHanded_of_change_sized (C := Try.checked) own started (by kernel_rfl) Try.func3
    (ChangeSpec.witness6 (enc := enc) (C := Try.checked) false ⟨#[], #[.int .i64 0, .slice Option.none 0 0], []⟩ 8 (by kernel_rfl) (by kernel_rfl) (by kernel_rfl) (by kernel_rfl)) ?_
  intro W base args ds gs before hval0 hW hcnd hsz _
  have hval : ∀ (j : Nat) t v, Try.f3.params[j]? = some t → args[j]? = some v → Value.okWide Try.prog W .any base t v := hval0
  have hW' := hW
  obtain ⟨p, q, hA0, hV, rfl, hfz, hnd⟩ := hW
  have hA : DataW.TrodAll enc Try.prog W 0 (fun _ => true) true Try.f3.params.toList args.toList ds p := hA0
  rw [Try.params3] at hA hval
  obtain ⟨v0, vs0, d0, ds0, p0, q0, hargs, rfl, rfl, h0, r0⟩ := trodAll_cons hA
  obtain ⟨v1, vs1, d1, ds1, p1, q1, rfl, rfl, rfl, h1, r1⟩ := trodAll_cons r0
  obtain ⟨rfl, rfl, rfl⟩ := trodAll_nil r1
  obtain rfl : args = #[v0, v1] := by cases args; simp_all
  obtain ⟨rfl, rfl⟩ := trodVars_none hV
  have k0 := h0
  have lt0 : ∀ x ∈ p0, x.block < W.heap.size := by obtain ⟨m, hm⟩ := k0; exact DataW.trod_lt m _ _ _ hm
  obtain ⟨a0, rfl, rfl, rfl, w0⟩ := open_int Try.underlying3 (hval 0 3 v0 rfl rfl) h0
  obtain ⟨l0, u0⟩ := wf_i64 w0
  have k1 := h1
  have lt1 : ∀ x ∈ p1, x.block < W.heap.size := by obtain ⟨m, hm⟩ := k1; exact DataW.trod_lt m _ _ _ hm
  obtain ⟨l1, b1, g1⟩ := open_each actC (fun y : ActS => y.Good W) Try.underlying22 (show Try.prog.cellsOf 37 = 10 by kernel_rfl) (by decide) each_act (hval 1 22 v1 rfl rfl) h1
  clear hA0 hval0 hsz
  refine (walk_SettingsActs W a0 l0 u0 v1 l1 b1 g1).mono fun e W' ⟨he, bel⟩ => ?_
  subst he
  exact ⟨_, rfl, _, _, _, [], _, [], hW', trodAll_mk1 (shut_bool Try.underlying4 _), (trodAll_cons_mk (shut_int Try.underlying3 w0) (trodAll_cons_mk (Below.trod laidOut (by kernel_rfl) (of_decide_eq_true (by kernel_rfl)) k1 bel lt1) trodAll_mk0)), rfl, bel.frame _, fun h => by cases h⟩

theorem over : Rows.settingsActsRow.holds Try.pinned (OpenSpec.ofChange Rows.settingsActsSpec) :=
  OpenClaim.holds_of_wide 3 Try.f3 rfl rfl rfl rfl rfl rfl rfl ⟨rfl, rfl, rfl, rfl, rfl⟩ rfl rfl rfl rfl rfl (by kernel_rfl) Try.func3 (by kernel_rfl)
    (of_decide_eq_true (by kernel_rfl)) (by unfold Func.isWrapper; first | (rw [if_pos (by decide +kernel)]; kernel_rfl) | (rw [if_neg (by decide +kernel)]; exact ⟨rfl, rfl⟩))
    (fun os started H enc _ => lifted os started H enc)

theorem proved : Rows.SettingsActsSaid := over
end lawSettingsActs
end Go.Proofs.Ytjmgnfpcieofkaa
