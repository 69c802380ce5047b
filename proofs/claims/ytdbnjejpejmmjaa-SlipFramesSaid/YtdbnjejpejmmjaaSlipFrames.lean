/- The law SlipFrames: the frames of any texts, and their lengths, are what the document says. -/
import Derived.Test.YtdbnjejpejmmjaaSlipLives
import Derived.Test.YtdbnjejpejmmjaaSlipEndsMath
import Derived.Test.YtdbnjejpejmmjaaFree
namespace Go.Proofs.Ytdbnjejpejmmjaa
open Go.ChangeShapes Go.WideShapes Go.ChangeAt Go.RowKit
set_option linter.unusedVariables false

theorem frames_bound (ls : List (List UInt8)) (k : Nat) (h : ∀ (i : Nat) (x : List UInt8), i < k → ls[i]? = some x → x.length ≤ 300) : (frames (ls.take k)).length ≤ 601 * k := by
  induction k with
  | zero => simp [frames]
  | succ k ih =>
    have ih := ih (fun i x hi hx => h i x (by omega) hx)
    rcases Nat.lt_or_ge k ls.length with hk | hk
    · rw [frames_snoc ls k hk, List.length_append, frame_len]
      have h1 := h k ls[k] (by omega) (List.getElem?_eq_getElem hk)
      have h2 := encText_len ls[k]
      omega
    · rw [List.take_of_length_le hk] at ih
      rw [List.take_of_length_le (by omega)]
      omega

set_option maxRecDepth 100000 in
set_option maxHeartbeats 2000000 in
theorem walk_SlipFrames (w : World) (v : Value) (ls : List (List UInt8)) (hb : IsRows w v ls) :
    Calls Try.prog 8 #[v] w fun e w' => e = .returned (.bool true) ∧ Below w.heap.size w w' := by
  have hv := hb
  obtain ⟨a, c, vs, rfl, hc, hm, hl, hlv, hin⟩ := hb
  unfold maxLen at hm
  by_cases hlen : 30 < ls.length
  · go_enter Try.func8, Try.ntmps8
    go_wp2_with fail
    refine (lives09_any _).mono ?_
    rintro e w1 ⟨rfl, hb1⟩
    go_wp2_with fail
    refine (lives09_any _).mono ?_
    rintro e w2 ⟨rfl, hb2⟩
    go_wp2
    go_ret
    exact ⟨rfl, hb1.trans (hb2.mono hb1.size)⟩
  · have hu := Try.underlying22
    have Hv := hide hv
    have Hlv := hide hlv
    have Hl := hide hl
    have Hin := hide hin
    clear hlv hl hin hv
    go_enter Try.func8, Try.ntmps8
    go_wp2_with fail
    refine (lives09_any _).mono ?_
    rintro e w1 ⟨rfl, hb1⟩
    have H1 := hide (own_nil 5 1 ((on_all w).below hb1))
    go_wp2_with fail
    go_loopw [3, 18] (fun v i wr => ∃ k : Nat, k ≤ ls.length ∧ i = .int .i64 k ∧ EncRel w (frames (ls.take k)) v wr ∧ ∀ (i : Nat) (x : List UInt8), i < k → ls[i]? = some x → x.length ≤ 300) (fun _ i _ => ls.length - (intOf i).toNat)
    case atStart => exact ⟨0, by omega, rfl, ⟨H1.out, Str.below hb1⟩, fun i x h => by omega⟩
    case round =>
      obtain ⟨k, hk, rfl, ⟨how, hstr⟩, hle⟩ := hrel
      have How := hide how
      have Hstr := hide hstr
      have Hle := hide hle
      have hB : Below w.heap.size w wr := all_below how.right hstr
      clear how hstr hle
      by_cases hlt : k < ls.length
      · have hkv : k < vs.length := by rw [Hlv.out]; exact hlt
        obtain ⟨b, off, rfl⟩ := Lay.isAddr Hl.out k hkv
        have hc0 := Lay.cell (Hl.out.below hB) k (List.getElem?_eq_getElem hkv)
        obtain ⟨a2, c2, hv2, hc2, hm2, hl2, hn2⟩ := Hin.out k vs[k] ls[k] (List.getElem?_eq_getElem hkv) (List.getElem?_eq_getElem hlt)
        have HS := hide (frames_snoc ls k hlt)
        have HK := hide (List.getElem?_eq_getElem hlt)
        rw [hv2] at hc0
        clear hv2
        unfold maxLen at hm2
        have Hb := hide (show IsBytes w (.slice a2 ls[k].length c2) ls[k] from ⟨a2, c2, rfl, hc2, by unfold maxLen; exact hm2, hl2, hn2⟩)
        generalize ls[k] = x at hc0 hc2 hl2 HS Hb HK
        have Hl2 := hide hl2
        clear hl2 hn2
        by_cases hx : 300 < x.length
        · go_wp2
          go_ret
          exact ⟨rfl, hB⟩
        · have Ho0 := hide (own_new (F := all wr) 5 1 0 [] (on_all wr) rfl (by decide))
          go_wp2_with (at_builtin; refine wpList_append_bytes (F := all wr) rfl _ _ 22 rfl 5 hu infoU8 _ [] x rfl Ho0.out _ rfl ((Hb.out.below hB).below ((Below.refl _ _).alloc (Nat.le_refl _) _)) (by simp; omega) ?_; intro v2 w2 ho2 hs2)
          rw [List.nil_append] at ho2
          have hB2 : Below wr.heap.size wr w2 := all_below ho2.right (((Str.refl _).alloc _).trans hs2)
          have hO2 := own_bytes ho2
          clear ho2 hs2 Ho0
          have Hb2 := hide (((Hb.out.below hB).below hB2))
          refine (refEncode_any _ x _ Hb2.out (by omega)).mono ?_
          rintro e w3 ⟨v3, rfl, ho3, hs3⟩
          dsimp only at ho3
          have hB3 : Below w2.heap.size w2 w3 := all_below ho3.right hs3
          have hO3 := own_bytes ho3
          have hO2' := hO2.below hB3
          clear ho3 hs3
          go_wp2_with fail
          obtain ⟨a6, c6, rfl, hc6, hm6, hl6, hn6⟩ := hO2'
          obtain ⟨a7, c7, rfl, hc7, hm7, hl7, hn7⟩ := hO3
          obtain ⟨a2', c2', he, _, _, hl2, _⟩ := Hb2.out.below hB3
          cases he
          have hfl : (frame x).length ≤ 601 := by rw [frame_len]; have := encText_len x; omega
          have hfx : frames [x] = frame x := frames_one x
          have hO6 := hide (show IsBytes w3 (.slice a6 x.length c6) x from ⟨a6, c6, rfl, hc6, hm6, hl6, hn6⟩)
          have Hl6 := hide hl6
          have Hl7 := hide hl7
          have Hl2w := hide hl2
          have Hfx := hide hfx
          clear hl6 hl7 hl2 hfx
          have HB := hide (hB.trans ((hB2.trans (hB3.mono hB2.size)).mono hB.size))
          have Hf := hide (How.out)
          generalize hfr : frame x = fx at *
          have Hfr := hide hfr
          clear hfr
          have hu8 := Try.underlying5
          have hstr := Try.underlying9
          refine wp_region_vs [isV (.slice a6 x.length c6), (fun v w => IsRows w v [x]), (fun v w => IsBytes w v fx), isV (.string (strOf fx)), isV (.slice a7 fx.length c7), isV (.string (strOf fx)), isV (.bool false), isV (.bool false),
            isV (.slice a6 x.length c6), isV (.int .i64 (fx.length : Nat)), isV (.slice a7 fx.length c7), isV (.int .i64 (fx.length : Nat)), isV (.bool false), isV (.bool false), isV (.bool false), isV (.slice a6 x.length c6), isV (.string (strOf x)), isV (.slice a2 x.length c2), isV (.string (strOf x)), isV (.bool false), isV (.bool false)]
            (by kernel_rfl) (by kernel_rfl) rfl ?keep ?todo ?rest
          case keep => exact ⟨Keep.isV _, fun _ _ _ h k => IsRows.below h k, fun _ _ _ h k => IsBytes.below h k, Keep.isV _, Keep.isV _, Keep.isV _, Keep.isV _, Keep.isV _, Keep.isV _, Keep.isV _, Keep.isV _, Keep.isV _, Keep.isV _, Keep.isV _, Keep.isV _, Keep.isV _, Keep.isV _, Keep.isV _, Keep.isV _, Keep.isV _, Keep.isV _, trivial⟩
          case todo =>
            refine ⟨?_, ?_, ?_, ?_, ?_, ?_, ?_, ?_, ?_, ?_, ?_, ?_, ?_, ?_, ?_, ?_, ?_, ?_, ?_, ?_, ?_, trivial⟩
            · exact fun ev W hT hb hk hf => OpOk.move rfl hk.1 ⟨rfl, Stay.refl _⟩
            · intro ev W hT hb hk hf
              have e0 : ev (.tmp 30) = .slice a6 x.length c6 := hf.1
              have hW := hO6.out.below hT
              exact OpOk.run (v := .slice (some ⟨W.heap.size, 0, Option.none⟩) 1 1) (W' := W.alloc (.cells #[.slice a6 x.length c6] 22)) (by simp [execOp, e0, go_sem]) ⟨IsRows.one hW _, (Below.refl _ _).alloc (Nat.le_refl _) _⟩
            · intro ev W hT hb hk hf
              have e0 : IsRows W (ev (.tmp 31)) [x] := hf.1
              refine OpOk.enters (f := 33) (args := #[ev (.tmp 31)]) (W' := W) (by simp [execOp, resolve, invoke, hb.2.1, go_sem]) ?_
              refine (encode_any _ _ _ e0 (by rw [Hfx.out]; omega)).mono ?_
              rw [Hfx.out]
              rintro e w' ⟨v', rfl, ho', hs'⟩
              exact ⟨_, rfl, own_bytes ho', all_below ho'.right hs'⟩
            · intro ev W hT hb hk hf
              have e0 : IsBytes W (ev (.tmp 32)) fx := hf.1
              obtain ⟨a, c, e1, _, _, hl, _⟩ := e0
              exact OpOk.convert rfl e1 (run_string_of hu hu8 hl _ hstr) ⟨rfl, Stay.refl _⟩
            · exact fun ev W hT hb hk hf => OpOk.move rfl hk.1 ⟨rfl, Stay.refl _⟩
            · intro ev W hT hb hk hf
              exact OpOk.convert rfl hf.1 (run_string_of hu hu8 (Hl7.out.below hT) _ hstr) ⟨rfl, Stay.refl _⟩
            · intro ev W hT hb hk hf
              have e0 : ev (.tmp 33) = .string (strOf fx) := hf.1
              have e1 : ev (.tmp 35) = .string (strOf fx) := hf.2.1
              exact OpOk.run (v := .bool false) (W' := W) (by simp [execOp, e0, e1, go_sem]) ⟨rfl, Stay.refl _⟩
            · exact fun ev W hT hb hk hf => OpOk.move rfl hf.1 ⟨rfl, Stay.refl _⟩
            · exact fun ev W hT hb hk hf => ⟨false, hf.1, fun _ => OpOk.move rfl hk.1 ⟨rfl, Stay.refl _⟩, fun h => (h rfl).elim⟩
            · intro ev W hT hb hk hf
              refine ⟨false, hf.2.1, fun _ => ?_, fun h => (h rfl).elim⟩
              have e0 : ev (.tmp 38) = .slice a6 x.length c6 := hf.1
              refine OpOk.enters (f := 34) (args := #[ev (.tmp 38)]) (W' := W) (by simp [execOp, resolve, invoke, hb.2.1, go_sem]) ?_
              rw [e0]
              refine (len_any _ x _ (hO6.out.below hT) (by omega)).mono ?_
              rw [Hfr.out]
              rintro e w' ⟨rfl, rfl⟩
              exact ⟨_, rfl, rfl, Stay.refl _⟩
            · exact fun ev W hT hb hk hf => ⟨false, hf.1, fun _ => OpOk.move rfl hk.1 ⟨rfl, Stay.refl _⟩, fun h => (h rfl).elim⟩
            · intro ev W hT hb hk hf
              refine ⟨false, hf.2.1, fun _ => ?_, fun h => (h rfl).elim⟩
              have e0 : ev (.tmp 40) = .slice a7 fx.length c7 := hf.1
              exact OpOk.run (v := .int .i64 (fx.length : Nat)) (W' := W) (by simp [e0, go_sem]) ⟨rfl, Stay.refl _⟩
            · intro ev W hT hb hk hf
              refine ⟨false, hf.2.2.1, fun _ => ?_, fun h => (h rfl).elim⟩
              have e0 : ev (.tmp 39) = .int .i64 (fx.length : Nat) := hf.1
              have e1 : ev (.tmp 41) = .int .i64 (fx.length : Nat) := hf.2.1
              exact OpOk.run (v := .bool false) (W' := W) (by simp [execOp, e0, e1, go_sem]) ⟨rfl, Stay.refl _⟩
            · exact fun ev W hT hb hk hf => OpOk.pick rfl hf.1 ⟨hf.2.1, Stay.refl _⟩
            · exact fun ev W hT hb hk hf => OpOk.move rfl hf.1 ⟨rfl, Stay.refl _⟩
            · exact fun ev W hT hb hk hf => ⟨false, hf.1, fun _ => OpOk.move rfl hk.1 ⟨rfl, Stay.refl _⟩, fun h => (h rfl).elim⟩
            · intro ev W hT hb hk hf
              refine ⟨false, hf.2.1, fun _ => ?_, fun h => (h rfl).elim⟩
              exact OpOk.convert rfl hf.1 (run_string_of hu hu8 (Hl6.out.below hT) _ hstr) ⟨rfl, Stay.refl _⟩
            · exact fun ev W hT hb hk hf => ⟨false, hf.1, fun _ => OpOk.move rfl hk.1 ⟨rfl, Stay.refl _⟩, fun h => (h rfl).elim⟩
            · intro ev W hT hb hk hf
              refine ⟨false, hf.2.1, fun _ => ?_, fun h => (h rfl).elim⟩
              exact OpOk.convert rfl hf.1 (run_string_of hu hu8 (Hl2w.out.below hT) _ hstr) ⟨rfl, Stay.refl _⟩
            · intro ev W hT hb hk hf
              refine ⟨false, hf.2.2.1, fun _ => ?_, fun h => (h rfl).elim⟩
              have e0 : ev (.tmp 46) = .string (strOf x) := hf.1
              have e1 : ev (.tmp 48) = .string (strOf x) := hf.2.1
              exact OpOk.run (v := .bool false) (W' := W) (by simp [execOp, e0, e1, go_sem]) ⟨rfl, Stay.refl _⟩
            · exact fun ev W hT hb hk hf => OpOk.pick rfl hf.1 ⟨hf.2.1, Stay.refl _⟩
          case rest =>
            intro W hT
            rintro _ rfl v1 - v2 - _ rfl _ rfl _ rfl _ rfl _ rfl _ rfl _ rfl _ rfl _ rfl _ rfl _ rfl _ rfl _ rfl _ rfl _ rfl _ rfl _ rfl _ rfl
            have HW := hide (HB.out.trans (hT.mono HB.out.size))
            have Hf7 := hide ((show IsBytes w3 (.slice a7 fx.length c7) fx from ⟨a7, c7, rfl, hc7, hm7, Hl7.out, hn7⟩).below hT)
            have hWr : Below wr.heap.size wr W := (hB2.trans (hB3.mono hB2.size)).trans (hT.mono (hB2.trans (hB3.mono hB2.size)).size)
            have Hoo := hide (How.out.below hWr)
            clear hT hO2 hWr
            go_wp2
            refine Rest.done ?_
            simp only [Exit.then]
            go_wp2_with (at_builtin; refine wpList_append_bytes (F := all w) rfl _ _ 22 rfl 5 hu infoU8 _ (frames (ls.take k)) fx rfl Hoo.out _ rfl Hf7.out (by have := frames_bound ls k Hle.out; omega) ?_; intro v9 w9 ho9 hs9)
            go_roundw
            case rel => exact ⟨k + 1, by omega, by go_num, ⟨by rw [HS.out]; exact ho9, (Str.below HW.out).trans hs9⟩, fun i y hi hy => by
              rcases Nat.lt_or_ge i k with h | h
              · exact Hle.out i y h hy
              · obtain rfl : i = k := by omega
                rw [HK.out] at hy; cases hy; omega⟩
            case measure => simp [intOf]; omega
      · obtain rfl : k = ls.length := by omega
        rw [List.take_length] at How
        have hfb : (frames ls).length ≤ 601 * ls.length := by have := frames_bound ls ls.length Hle.out; rwa [List.take_length] at this
        have HB := hide hB
        obtain ⟨a3, c3, rfl, hc3, hm3, hl3, hn3⟩ := own_bytes How.out
        have hu8 := Try.underlying5
        have hstr := Try.underlying9
        go_wp2_with fail
        refine wp_region_vs [isV (.slice a ls.length c), (fun v w => IsBytes w v (frames ls)), isV (.string (strOf (frames ls))), isV (.slice a3 (frames ls).length c3), isV (.string (strOf (frames ls))), isV (.bool true), isV (.bool true)]
            (by kernel_rfl) (by kernel_rfl) rfl ?keep ?todo ?rest
        case keep => exact ⟨Keep.isV _, fun _ _ _ h k => IsBytes.below h k, Keep.isV _, Keep.isV _, Keep.isV _, Keep.isV _, Keep.isV _, trivial⟩
        case todo =>
          refine ⟨?_, ?_, ?_, ?_, ?_, ?_, ?_, trivial⟩
          · exact fun ev W hT hb hk hf => OpOk.move rfl hk.1 ⟨rfl, Stay.refl _⟩
          · intro ev W hT hb hk hf
            have e0 : ev (.tmp 55) = .slice a ls.length c := hf.1
            refine OpOk.enters (f := 33) (args := #[ev (.tmp 55)]) (W' := W) (by simp [execOp, resolve, invoke, hb.2.1, go_sem]) ?_
            rw [e0]
            refine (encode_any _ ls _ ((Hv.out.below HB.out).below hT) (by omega)).mono ?_
            rintro e w' ⟨v', rfl, ho', hs'⟩
            exact ⟨_, rfl, own_bytes ho', all_below ho'.right hs'⟩
          · intro ev W hT hb hk hf
            have e0 : IsBytes W (ev (.tmp 56)) (frames ls) := hf.1
            obtain ⟨a, c, e1, _, _, hl, _⟩ := e0
            exact OpOk.convert rfl e1 (run_string_of hu hu8 hl _ hstr) ⟨rfl, Stay.refl _⟩
          · exact fun ev W hT hb hk hf => OpOk.move rfl hk.1 ⟨rfl, Stay.refl _⟩
          · intro ev W hT hb hk hf
            exact OpOk.convert rfl hf.1 (run_string_of hu hu8 (hl3.below hT) _ hstr) ⟨rfl, Stay.refl _⟩
          · intro ev W hT hb hk hf
            have e0 : ev (.tmp 57) = .string (strOf (frames ls)) := hf.1
            have e1 : ev (.tmp 59) = .string (strOf (frames ls)) := hf.2.1
            exact OpOk.run (v := .bool true) (W' := W) (by simp [execOp, e0, e1, go_sem]) ⟨rfl, Stay.refl _⟩
          · exact fun ev W hT hb hk hf => OpOk.assign rfl hf.1 ⟨rfl, Stay.refl _⟩
        case rest =>
          intro W hT
          rintro _ rfl v1 - _ rfl _ rfl _ rfl _ rfl _ rfl
          have HW := hide (HB.out.trans (hT.mono HB.out.size))
          clear hT
          go_wp2
          refine Rest.done ?_
          simp only [Exit.then]
          go_wp2
          go_ret
          exact ⟨rfl, HW.out⟩
namespace lawSlipFrames
theorem own : ownKnob Try.prog.godebug = Option.none := by kernel_rfl
theorem laidOut : laidOutB Try.prog = true := by kernel_rfl
set_option maxRecDepth 100000 in
theorem lifted (os : Os) (started : os.Started) (H : Type) (enc : TypeId × Value → H) :
    ReturnsInHanded {} Try.checked os 8 .any (Rows.slipFramesSpec.pre6 enc Try.prog Try.f8 Rows.slipFramesRow.domain false) (Rows.slipFramesSpec.post enc Try.prog Try.f8 false true false false) := by
  refine returnsInHanded_of_change_sized (C := Try.checked) own started (by kernel_rfl) Try.func8
    (ChangeSpec.witness6 (enc := enc) (C := Try.checked) false ⟨#[], #[.slice Option.none 0 0], []⟩ 8 (by kernel_rfl) (by kernel_rfl) (by kernel_rfl) (by kernel_rfl)) ?_
  intro W base args ds gs before hval0 hW hcnd hsz _
  have hval : ∀ (j : Nat) t v, Try.f8.params[j]? = some t → args[j]? = some v → Value.okWide Try.prog W .any base t v := hval0
  have hW' := hW
  obtain ⟨p, q, hA0, hV, rfl, hfz, hnd⟩ := hW
  have hA : DataW.TrodAll enc Try.prog W 0 (fun _ => true) true Try.f8.params.toList args.toList ds p := hA0
  rw [Try.params8] at hA hval
  obtain ⟨v0, vs0, d0, ds0, p0, q0, hargs, rfl, rfl, h0, r0⟩ := trodAll_cons hA
  obtain ⟨rfl, rfl, rfl⟩ := trodAll_nil r0
  obtain rfl : args = #[v0] := by cases args; simp_all
  obtain ⟨rfl, rfl⟩ := trodVars_none hV
  have k0 := h0
  have lt0 : ∀ x ∈ p0, x.block < W.heap.size := by obtain ⟨m, hm⟩ := k0; exact DataW.trod_lt m _ _ _ hm
  obtain ⟨l0, b0, n0⟩ := open_rows Try.underlying44 Try.underlying22 Try.underlying5 (by kernel_rfl) (by kernel_rfl) (hval 0 44 v0 rfl rfl) h0
  clear hA0 hval0 hsz
  refine (walk_SlipFrames W v0 l0 b0).mono fun e W' ⟨he, bel⟩ => ?_
  subst he
  exact ⟨_, rfl, _, _, _, [], _, [], hW', trodAll_mk1 (shut_bool Try.underlying4 _), (trodAll_cons_mk (Below.trod laidOut (by kernel_rfl) (of_decide_eq_true (by kernel_rfl)) k0 bel lt0) trodAll_mk0), rfl, bel.frame _, fun h => by cases h⟩

theorem over : Rows.slipFramesRow.holds Try.pinned (OpenSpec.ofChange Rows.slipFramesSpec) :=
  OpenClaim.holds_of_wide 8 Try.f8 rfl rfl rfl rfl rfl rfl rfl ⟨rfl, rfl, rfl, rfl, rfl⟩ rfl rfl rfl rfl rfl (by kernel_rfl) Try.func8 (by kernel_rfl)
    (of_decide_eq_true (by kernel_rfl)) (by unfold Func.isWrapper; first | (rw [if_pos (by decide +kernel)]; kernel_rfl) | (rw [if_neg (by decide +kernel)]; exact ⟨rfl, rfl⟩))
    (fun os started H enc _ => lifted os started H enc)

theorem proved : Rows.SlipFramesSaid := over
end lawSlipFrames
end Go.Proofs.Ytdbnjejpejmmjaa
