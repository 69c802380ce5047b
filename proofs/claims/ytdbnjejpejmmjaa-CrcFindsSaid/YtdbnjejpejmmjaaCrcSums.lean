/- The law CrcSums: for every sum and bytes, what crc says is what the document says, and it changes nothing. -/
import Derived.Test.YtdbnjejpejmmjaaCrcLives
import Derived.Test.YtdbnjejpejmmjaaOwn
namespace Go.Proofs.Ytdbnjejpejmmjaa
open Go.ChangeShapes Go.WideShapes Go.ChangeAt Go.RowKit
set_option linter.unusedVariables false

theorem crcUpd_nil (s : Nat) (h : s < 4294967296) : crcUpd s [] = s := by unfold crcUpd crcBytes; simp; omega

set_option maxRecDepth 100000 in
set_option maxHeartbeats 2000000 in
theorem walk_CrcSums (w : World) (s : Int) (h0 : 0 ≤ s) (h1 : s ≤ 4294967295) (v : Value) (l : List UInt8) (hb : IsBytes w v l) :
    Calls Try.prog 5 #[.int .u32 s, v] w fun e w' => e = .returned (.bool true) ∧ Below w.heap.size w w' := by
  obtain ⟨s, rfl⟩ := Int.eq_ofNat_of_zero_le h0
  have hv := hb
  obtain ⟨a, c, rfl, hc, hm, _⟩ := hb
  unfold maxLen at hm
  by_cases hlen : 3000 < l.length
  · go_enter Try.func5, Try.ntmps5
    go_wp2_with fail
    refine (lives02_any _).mono ?_
    rintro e w1 ⟨rfl, hb1⟩
    go_wp2_with fail
    refine (lives02_any _).mono ?_
    rintro e w2 ⟨rfl, hb2⟩
    go_wp2
    go_ret
    exact ⟨rfl, hb1.trans (hb2.mono hb1.size)⟩
  · have hi : (Try.prog.info? 5).map (fun i => (i.zero, i.size, i.bytes)) = some (some (.int .u8 0), 1, 1) := by kernel_rfl
    have hu := Try.underlying22
    go_enter Try.func5, Try.ntmps5
    go_wp2_with fail
    refine (lives02_any _).mono ?_
    rintro e w1 ⟨rfl, hb1⟩
    have ho0 := own_new (F := all w) 5 1 0 [] ((on_all w).below hb1) rfl (by decide)
    have Ho0 := hide ho0
    have Hv1 := hide ((hv.below hb1).below ((Below.refl _ _).alloc (Nat.le_refl _) (.cells #[] 5)))
    have Hv := hide hv
    have Hi := hide hi
    clear hi ho0 hv
    go_wp2_with (at_builtin; refine wpList_append_bytes (F := all w) rfl _ _ 22 rfl 5 hu Hi.out _ [] l rfl Ho0.out _ rfl Hv1.out (by simp; omega) ?_; intro v2 w2 ho2 hs2)
    rw [List.nil_append] at ho2
    have hB2 : Below w.heap.size w w2 := all_below ho2.right (((Str.below hb1).alloc _).trans hs2)
    have hO2 := own_bytes ho2
    clear ho2 hs2
    obtain ⟨a2, c2, rfl, hc2, hm2, hl2, hn2⟩ := hO2
    have hO2 : IsBytes w2 (.slice a2 l.length c2) l := ⟨a2, c2, rfl, hc2, hm2, hl2, hn2⟩
    have hu0 := crcUpd_nil s (by omega)
    have hu1 := crcUpd_lt s l
    have hu2 := crcUpd_lt 0 l
    refine (update_any s (by omega) _ l _ hO2).mono ?_
    generalize hgu : crcUpd s l = u at hu1
    rintro e w3 ⟨rfl, hb3⟩
    go_wp2_with fail
    have hB3 := hB2.trans (hb3.mono hB2.size)
    refine (refUpdate_any s (by omega) _ l _ (Hv.out.below hB3)).mono ?_
    rw [hgu]
    have Hgu := hide hgu
    clear hgu
    rintro e w4 ⟨rfl, rfl⟩
    have hR := IsRows.one (Hv.out.below hB3) 22
    have e1 : ((u : Int) == (u : Int)) = true := by simp
    go_wp2_with fail
    refine (sum_any _ [l] _ hR).mono ?_
    simp only [List.flatten_cons, List.flatten_nil, List.append_nil]
    generalize hg0 : crcUpd 0 l = u0 at hu2
    have Hg0 := hide hg0
    clear hg0
    rintro e w5 ⟨rfl, hb5⟩
    have hB5 : Below w.heap.size w w5 := (hB3.alloc hB3.size _).trans (hb5.mono (by have := hB3.size; simp; omega))
    go_wp2_with fail
    refine (refUpdate_any 0 (by omega) _ l _ (Hv.out.below hB5)).mono ?_
    rw [Hg0.out]
    rintro e w6 ⟨rfl, rfl⟩
    have e2 : ((u0 : Int) == (u0 : Int)) = true := by simp
    go_wp2_with fail
    refine (update_any s (by omega) _ [] _ (IsBytes.nil _)).mono ?_
    rw [hu0]
    rintro e w7 ⟨rfl, hb7⟩
    have hB7 := hB5.trans (hb7.mono hB5.size)
    have hl7 : Lay w7 a2 (vbs l) := ((hl2.below hb3).below (((Below.refl _ _).alloc (Nat.le_refl _) _).trans (hb5.mono (by simp)))).below hb7
    obtain ⟨a', c', hav, _, _, hl1, _⟩ := Hv.out.below hB7
    cases hav
    have hc1 := run_string_of (P := Try.prog) (w := w7) (c := c2) Try.underlying22 Try.underlying5 hl7
    have hc2' := run_string_of (P := Try.prog) (w := w7) (c := c) Try.underlying22 Try.underlying5 hl1
    have e3 : ((s : Int) == (s : Int)) = true := by simp
    have hstr := Try.underlying9
    go_wp2
    go_ret
    exact ⟨rfl, hB7⟩
namespace lawCrcSums
theorem own : ownKnob Try.prog.godebug = Option.none := by kernel_rfl
theorem laidOut : laidOutB Try.prog = true := by kernel_rfl
set_option maxRecDepth 100000 in
theorem lifted (os : Os) (started : os.Started) (H : Type) (enc : TypeId × Value → H) :
    ReturnsInHanded {} Try.checked os 5 .any (Rows.crcSumsSpec.pre6 enc Try.prog Try.f5 Rows.crcSumsRow.domain false) (Rows.crcSumsSpec.post enc Try.prog Try.f5 false true false false) := by
  refine returnsInHanded_of_change (C := Try.checked) own started (by kernel_rfl) Try.func5
    (ChangeSpec.witness6 (enc := enc) (C := Try.checked) false ⟨#[], #[.int .u32 0, .slice Option.none 0 0], []⟩ 8 (by kernel_rfl) (by kernel_rfl) (by kernel_rfl) (by kernel_rfl)) ?_
  intro W base args ds gs before hval0 hW hcnd _
  have hval : ∀ (j : Nat) t v, Try.f5.params[j]? = some t → args[j]? = some v → Value.okWide Try.prog W .any base t v := hval0
  have hW' := hW
  obtain ⟨p, q, hA0, hV, rfl, hfz, hnd⟩ := hW
  have hA : DataW.TrodAll enc Try.prog W 0 (fun _ => true) true Try.f5.params.toList args.toList ds p := hA0
  rw [Try.params5] at hA hval
  obtain ⟨v0, vs0, d0, ds0, p0, q0, hargs, rfl, rfl, h0, r0⟩ := trodAll_cons hA
  obtain ⟨v1, vs1, d1, ds1, p1, q1, rfl, rfl, rfl, h1, r1⟩ := trodAll_cons r0
  obtain ⟨rfl, rfl, rfl⟩ := trodAll_nil r1
  obtain rfl : args = #[v0, v1] := by cases args; simp_all
  obtain ⟨rfl, rfl⟩ := trodVars_none hV
  have k0 := h0
  have lt0 : ∀ x ∈ p0, x.block < W.heap.size := by obtain ⟨m, hm⟩ := k0; exact DataW.trod_lt m _ _ _ hm
  obtain ⟨a0, rfl, rfl, rfl, w0⟩ := open_int Try.underlying23 (hval 0 23 v0 rfl rfl) h0
  obtain ⟨l0, u0⟩ := wf_u32 w0
  have k1 := h1
  have lt1 : ∀ x ∈ p1, x.block < W.heap.size := by obtain ⟨m, hm⟩ := k1; exact DataW.trod_lt m _ _ _ hm
  obtain ⟨l1, b1⟩ := open_bytes Try.underlying22 Try.underlying5 (by kernel_rfl) (hval 1 22 v1 rfl rfl) h1
  clear hA0 hval0
  refine (walk_CrcSums W a0 l0 u0 v1 l1 b1).mono fun e W' ⟨he, bel⟩ => ?_
  subst he
  exact ⟨_, rfl, _, _, _, [], _, [], hW', trodAll_mk1 (shut_bool Try.underlying4 _), (trodAll_cons_mk (shut_int Try.underlying23 w0) (trodAll_cons_mk (Below.trod laidOut (by kernel_rfl) (of_decide_eq_true (by kernel_rfl)) k1 bel lt1) trodAll_mk0)), rfl, bel.frame _, fun h => by cases h⟩

theorem over : Rows.crcSumsRow.holds Try.pinned (OpenSpec.ofChange Rows.crcSumsSpec) :=
  OpenClaim.holds_of_wide 5 Try.f5 rfl rfl rfl rfl rfl rfl rfl ⟨rfl, rfl, rfl, rfl, rfl⟩ rfl rfl rfl rfl rfl (by kernel_rfl) Try.func5 (by kernel_rfl)
    (of_decide_eq_true (by kernel_rfl)) (by unfold Func.isWrapper; first | (rw [if_pos (by decide +kernel)]; kernel_rfl) | (rw [if_neg (by decide +kernel)]; exact ⟨rfl, rfl⟩))
    (fun os started H enc _ => lifted os started H enc)

theorem proved : Rows.CrcSumsSaid := over
end lawCrcSums
end Go.Proofs.Ytdbnjejpejmmjaa
