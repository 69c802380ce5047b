/- The law UploaderNil: no uploader. -/
import Derived.Test.YtgkofpfjbjnhfaaUp2
import Derived.Test.YtgkofpfjbjnhfaaOpen
namespace Go.Proofs.Ytgkofpfjbjnhfaa
open Go.ChangeShapes Go.WideShapes Go.ChangeAt Go.RowKit
set_option linter.unusedVariables false
set_option linter.unusedSimpArgs false

set_option maxRecDepth 100000 in
set_option maxHeartbeats 8000000 in
theorem lives22_any (w : World) : Calls Try.prog 13 #[] w fun e w' => e = .returned (.bool true) ∧ Below w.heap.size w w' := by
  have hu := Try.underlying28
  have hu8 := Try.underlying5
  have hstr := Try.underlying9
  have HB0 : Hid (Below w.heap.size w ((w.alloc (.cells #[.int .u8 1] 5)).alloc (.cells #[.int .u8 2] 5))) := hide (((Below.refl _ _).alloc (Nat.le_refl _) _).alloc (by simp) _)
  have i1 : IsBytes ((w.alloc (.cells #[.int .u8 1] 5)).alloc (.cells #[.int .u8 2] 5)) (.slice (some ⟨w.heap.size, 0, Option.none⟩) 1 1) [1] := (IsBytes.new w [1] (by simp [maxLen]) 5).below ((Below.refl _ _).alloc (Nat.le_refl _) _)
  have i2 : IsBytes ((w.alloc (.cells #[.int .u8 1] 5)).alloc (.cells #[.int .u8 2] 5)) (.slice (some ⟨(w.alloc (.cells #[.int .u8 1] 5)).heap.size, 0, Option.none⟩) 1 1) [2] := IsBytes.new (w.alloc (.cells #[.int .u8 1] 5)) [2] (by simp [maxLen]) 5
  rw [World.size_alloc] at i2
  have hE := upnew_any _ _ [1] [2] _ i1 i2 (by decide) (by decide) (by decide) (by decide)
  clear i1 i2
  go_enter Try.func13, Try.ntmps13
  go_wp2_with fail
  generalize (w.alloc (.cells #[.int .u8 1] 5)).alloc (.cells #[.int .u8 2] 5) = w1 at *
  refine hE.mono ?_
  clear hE
  rintro e w2 ⟨p, iv, mv, dp, rfl, h, hs⟩
  have hE := upsend_greet p iv mv (dptr dp) ⟨dp, rfl⟩ (all w1) w2 h
  have HS := hide hs
  clear h hs
  go_wp2_with fail
  refine hE.mono ?_
  clear hE
  rintro e w3 ⟨v, rfl, ho, hs⟩
  have H3 := hide ho
  have HS3 := hide (HS.out.trans hs)
  have hE := upsend_sent p w3 (cell_of_row _ _ 4 _ _ _ (on_blk_mul ho.right))
  obtain ⟨a3, c3, rfl, _, _, hl, _⟩ := own_value ho
  have k1 := run_string_of (P := Try.prog) (w := w3) (c := c3) hu hu8 hl _ hstr
  simp only [List.length_cons, List.length_nil, Nat.zero_add, Nat.reduceAdd] at k1
  have HB3 := hide (HB0.out.trans ((all_below H3.out.right.right HS3.out).mono HB0.out.size))
  clear ho hs hl
  go_wp2_with fail
  refine hE.mono ?_
  clear hE
  rintro e _ ⟨rfl, rfl⟩
  go_wp2_with fail
  go_ret
  exact ⟨rfl, HB3.out⟩

set_option maxRecDepth 100000 in
set_option maxHeartbeats 8000000 in
theorem walk_UploaderNil (w : World) (v : Value) (b : List UInt8) (hb : IsBytes w v b) :
    Calls Try.prog 4 #[v] w fun e w' => e = .returned (.bool true) ∧ Below w.heap.size w w' := by
  have hLv := lives22_any w
  obtain ⟨a, c, rfl, hc, hm, _, _⟩ := hb
  unfold maxLen at hm
  by_cases h200 : 200 < b.length
  · go_enter Try.func4, Try.ntmps4
    go_wp2_with fail
    refine hLv.mono ?_
    clear hLv
    rintro e w2 ⟨rfl, hb2⟩
    have hLv := lives22_any w2
    have HB2 := hide hb2
    clear hb2
    go_wp2_with fail
    refine hLv.mono ?_
    clear hLv
    rintro e w3 ⟨rfl, hb3⟩
    have HB3 := hide (HB2.out.trans (hb3.mono HB2.out.size))
    clear hb3
    go_wp2_with fail
    go_ret
    exact ⟨rfl, HB3.out⟩
  · go_enter Try.func4, Try.ntmps4
    go_wp2_with fail
    refine hLv.mono ?_
    clear hLv
    rintro e w2 ⟨rfl, hb2⟩
    have HB2 := hide hb2
    have h1 := uphear_nil a b.length c w2
    have h2 := uptick_nil w2
    have h3 := updone_nil w2
    have h4 := upsend_nil w2
    clear hb2
    go_wp2_with fail
    refine h1.mono ?_
    clear h1
    rintro e _ ⟨⟨v1, rfl⟩, rfl⟩
    go_wp2_with fail
    refine h2.mono ?_
    clear h2
    rintro e _ ⟨⟨v2, rfl⟩, rfl⟩
    go_wp2_with fail
    refine h3.mono ?_
    clear h3
    rintro e _ ⟨rfl, rfl⟩
    go_wp2_with fail
    refine h4.mono ?_
    clear h4
    rintro e _ ⟨rfl, rfl⟩
    go_wp2_with fail
    go_ret
    exact ⟨rfl, HB2.out⟩
namespace lawUploaderNil
theorem own : ownKnob Try.prog.godebug = Option.none := by kernel_rfl
theorem laidOut : laidOutB Try.prog = true := by kernel_rfl
set_option maxRecDepth 100000 in
theorem lifted (os : Os) (started : os.Started) (H : Type) (enc : TypeId × Value → H) :
    ReturnsInHanded {} Try.checked os 4 .any (Rows.uploaderNilSpec.pre6 enc Try.prog Try.f4 Rows.uploaderNilRow.domain false) (Rows.uploaderNilSpec.post enc Try.prog Try.f4 false true false false) := by
  refine returnsInHanded_of_change_sized (C := Try.checked) own started (by kernel_rfl) Try.func4
    (ChangeSpec.witness6 (enc := enc) (C := Try.checked) false ⟨#[], #[.slice Option.none 0 0], []⟩ 8 (by kernel_rfl) (by kernel_rfl) (by kernel_rfl) (by kernel_rfl)) ?_
  intro W base args ds gs before hval0 hW hcnd hsz _
  have hval : ∀ (j : Nat) t v, Try.f4.params[j]? = some t → args[j]? = some v → Value.okWide Try.prog W .any base t v := hval0
  have hW' := hW
  obtain ⟨p, q, hA0, hV, rfl, hfz, hnd⟩ := hW
  have hA : DataW.TrodAll enc Try.prog W 0 (fun _ => true) true Try.f4.params.toList args.toList ds p := hA0
  rw [Try.params4] at hA hval
  obtain ⟨v0, vs0, d0, ds0, p0, q0, hargs, rfl, rfl, h0, r0⟩ := trodAll_cons hA
  obtain ⟨rfl, rfl, rfl⟩ := trodAll_nil r0
  obtain rfl : args = #[v0] := by cases args; simp_all
  obtain ⟨rfl, rfl⟩ := trodVars_none hV
  have k0 := h0
  have lt0 : ∀ x ∈ p0, x.block < W.heap.size := by obtain ⟨m, hm⟩ := k0; exact DataW.trod_lt m _ _ _ hm
  obtain ⟨l0, b0, n0⟩ := open_bytes Try.underlying28 Try.underlying5 (by kernel_rfl) (hval 0 28 v0 rfl rfl) h0
  clear hA0 hval0 hsz
  refine (walk_UploaderNil W v0 l0 b0).mono fun e W' ⟨he, bel⟩ => ?_
  subst he
  exact ⟨_, rfl, _, _, _, [], _, [], hW', trodAll_mk1 (shut_bool Try.underlying4 _), (trodAll_cons_mk (Below.trod laidOut (by kernel_rfl) (of_decide_eq_true (by kernel_rfl)) k0 bel lt0) trodAll_mk0), rfl, bel.frame _, fun h => by cases h⟩

theorem over : Rows.uploaderNilRow.holds Try.pinned (OpenSpec.ofChange Rows.uploaderNilSpec) :=
  OpenClaim.holds_of_wide 4 Try.f4 rfl rfl rfl rfl rfl rfl rfl ⟨rfl, rfl, rfl, rfl, rfl⟩ rfl rfl rfl rfl rfl (by kernel_rfl) Try.func4 (by kernel_rfl)
    (of_decide_eq_true (by kernel_rfl)) (by unfold Func.isWrapper; first | (rw [if_pos (by decide +kernel)]; kernel_rfl) | (rw [if_neg (by decide +kernel)]; exact ⟨rfl, rfl⟩))
    (fun os started H enc _ => lifted os started H enc)

theorem proved : Rows.UploaderNilSaid := over
end lawUploaderNil
end Go.Proofs.Ytgkofpfjbjnhfaa
