/- The law CrcParts: in any parts, the sum is that of all. -/
import Derived.Test.YtdbnjejpejmmjaaCrcLives
import Derived.Test.YtdbnjejpejmmjaaCrcSums
import Derived.Test.YtdbnjejpejmmjaaOwn
namespace Go.Proofs.Ytdbnjejpejmmjaa
open Go.ChangeShapes Go.WideShapes Go.ChangeAt Go.RowKit
set_option linter.unusedVariables false

theorem crcUpd_append (s : Nat) (hs : s < 4294967296) (a b : List UInt8) : crcUpd (crcUpd s a) b = crcUpd s (a ++ b) := by
  have h := crcBytes_lt (r := 4294967295 - s) (by omega) a
  unfold crcUpd
  rw [crcBytes_append, show 4294967295 - (4294967295 - crcBytes (4294967295 - s) a) = crcBytes (4294967295 - s) a by omega]
theorem flatten_snoc {α : Type} (ls : List (List α)) (k : Nat) (h : k < ls.length) : (ls.take (k + 1)).flatten = (ls.take k).flatten ++ ls[k] := by
  rw [List.take_succ_eq_append_getElem h, List.flatten_append]; simp

def PartsRel (w : World) (ls : List (List UInt8)) (v s i : Value) (wr : World) : Prop :=
  ∃ k : Nat, k ≤ ls.length ∧ i = .int .i64 k ∧ (own 5 1 v (ls.take k).flatten.length (vbs (ls.take k).flatten) * all w).on wr ∧ Str w wr ∧ s = .int .u32 (crcUpd 0 (ls.take k).flatten : Nat) ∧ (ls.take k).flatten.length ≤ 300 * k

set_option maxRecDepth 100000 in
set_option maxHeartbeats 2000000 in
theorem walk_CrcParts (w : World) (v : Value) (ls : List (List UInt8)) (hb : IsRows w v ls) :
    Calls Try.prog 6 #[v] w fun e w' => e = .returned (.bool true) ∧ Below w.heap.size w w' := by
  have hv := hb
  obtain ⟨a, c, vs, rfl, hc, hm, hl, hlv, hin⟩ := hb
  unfold maxLen at hm
  by_cases hlen : 30 < ls.length
  · go_enter Try.func6, Try.ntmps6
    go_wp2_with fail
    refine (lives02_any _).mono ?_
    rintro e w1 ⟨rfl, hb1⟩
    go_wp2_with fail
    refine (lives02_any _).mono ?_
    rintro e w2 ⟨rfl, hb2⟩
    go_wp2
    go_ret
    exact ⟨rfl, hb1.trans (hb2.mono hb1.size)⟩
  · have hi : (Try.prog.info? 5).map (fun i => (i.zero, i.size, i.bytes)) = some (some (.int .u8 0), 1, 1) := by kernel_rfl
    have hu := Try.underlying22
    have Hi := hide hi
    have Hv := hide hv
    clear hi hv
    have Hlv := hide hlv
    have Hl := hide hl
    have Hin := hide hin
    clear hlv hl hin
    go_enter Try.func6, Try.ntmps6
    go_wp2_with fail
    refine (lives02_any _).mono ?_
    rintro e w1 ⟨rfl, hb1⟩
    have H1 := hide (own_nil 5 1 ((on_all w).below hb1))
    go_wp2_with fail
    go_loopw [3, 4, 17] (fun v s i wr => PartsRel w ls v s i wr) (fun _ _ i _ => ls.length - (intOf i).toNat)
    case atStart => exact ⟨0, by omega, rfl, by simpa using H1.out, Str.below hb1, by simp [crcUpd, crcBytes], by simp⟩
    case round =>
      obtain ⟨k, hk, rfl, how, hstr, rfl, hle⟩ := hrel
      have How := hide how
      have Hstr := hide hstr
      have hB : Below w.heap.size w wr := all_below how.right hstr
      clear how hstr
      by_cases hlt : k < ls.length
      · have hkv : k < vs.length := by rw [Hlv.out]; exact hlt
        obtain ⟨b, off, rfl⟩ := Lay.isAddr Hl.out k hkv
        have hc0 := Lay.cell (Hl.out.below hB) k (List.getElem?_eq_getElem hkv)
        obtain ⟨a2, c2, hv2, hc2, hm2, hl2, hn2⟩ := Hin.out k vs[k] ls[k] (List.getElem?_eq_getElem hkv) (List.getElem?_eq_getElem hlt)
        have HS := hide (flatten_snoc ls k hlt)
        rw [hv2] at hc0
        clear hv2
        unfold maxLen at hm2
        have Hb := hide (show IsBytes w (.slice a2 ls[k].length c2) ls[k] from ⟨a2, c2, rfl, hc2, by unfold maxLen; exact hm2, hl2, hn2⟩)
        generalize ls[k] = x at hc0 hc2 hl2 HS Hb
        have Hl2 := hide hl2
        clear hl2 hn2
        by_cases hx : 300 < x.length
        · go_wp2
          go_ret
          exact ⟨rfl, hB⟩
        · have hcu := crcUpd_lt 0 (ls.take k).flatten
          have HA := hide (crcUpd_append 0 (by omega) (ls.take k).flatten x)
          generalize hq : crcUpd 0 (ls.take k).flatten = q at hcu HA
          have Hq := hide hq
          clear hq
          go_wp2_with (at_builtin; refine wpList_append_bytes (F := all w) rfl _ _ 22 rfl 5 hu Hi.out _ (ls.take k).flatten x rfl How.out _ rfl (Hb.out.below hB) (by omega) ?_; intro v2 w2 ho2 hs2)
          have hB2 : Below w.heap.size w w2 := all_below ho2.right (Hstr.out.trans hs2)
          have Ho2 := hide ho2
          have Hs2 := hide hs2
          clear ho2 hs2
          refine (update_any q hcu _ x _ (Hb.out.below hB2)).mono ?_
          rw [HA.out]
          rintro e w3 ⟨rfl, hb3⟩
          go_wp2
          go_roundw
          case rel => exact ⟨k + 1, by omega, by go_num, by rw [HS.out]; exact Ho2.out.below hb3, (Hstr.out.trans Hs2.out).trans (Str.below hb3), by rw [HS.out], by rw [HS.out, List.length_append]; omega⟩
          case measure => simp [intOf]; omega
      · obtain rfl : k = ls.length := by omega
        rw [List.take_length] at *
        generalize hfl : ls.flatten = fl at *
        have Hfl := hide hfl
        clear hfl
        have hcu := crcUpd_lt 0 fl
        have hO := own_bytes How.out
        generalize hq : crcUpd 0 fl = q at hcu
        have Hq := hide hq
        clear hq
        have hO' := hO
        obtain ⟨a2, c2, rfl, _⟩ := hO'
        have e1 : ((q : Int) == (q : Int)) = true := by simp
        go_wp2_with fail
        refine (sum_any _ [fl] _ (IsRows.one hO 22)).mono ?_
        simp only [List.flatten_cons, List.flatten_nil, List.append_nil]
        rw [Hq.out]
        rintro e w4 ⟨rfl, hb4⟩
        have hB4 : Below w.heap.size w w4 := (hB.alloc hB.size _).trans (hb4.mono (by have := hB.size; simp; omega))
        go_wp2_with fail
        refine (sum_any _ ls _ (Hv.out.below hB4)).mono ?_
        rw [Hfl.out, Hq.out]
        rintro e w5 ⟨rfl, hb5⟩
        have hB5 := hB4.trans (hb5.mono hB4.size)
        go_wp2_with fail
        refine (sum_any _ [] _ (IsRows.nil _)).mono ?_
        rw [show crcUpd 0 (List.flatten []) = 0 from rfl]
        rintro e w6 ⟨rfl, hb6⟩
        go_wp2
        go_ret
        exact ⟨rfl, hB5.trans (hb6.mono hB5.size)⟩
namespace lawCrcParts
theorem own : ownKnob Try.prog.godebug = Option.none := by kernel_rfl
theorem laidOut : laidOutB Try.prog = true := by kernel_rfl
set_option maxRecDepth 100000 in
theorem lifted (os : Os) (started : os.Started) (H : Type) (enc : TypeId × Value → H) :
    ReturnsInHanded {} Try.checked os 6 .any (Rows.crcPartsSpec.pre6 enc Try.prog Try.f6 Rows.crcPartsRow.domain false) (Rows.crcPartsSpec.post enc Try.prog Try.f6 false true false false) := by
  refine returnsInHanded_of_change (C := Try.checked) own started (by kernel_rfl) Try.func6
    (ChangeSpec.witness6 (enc := enc) (C := Try.checked) false ⟨#[], #[.slice Option.none 0 0], []⟩ 8 (by kernel_rfl) (by kernel_rfl) (by kernel_rfl) (by kernel_rfl)) ?_
  intro W base args ds gs before hval0 hW hcnd _
  have hval : ∀ (j : Nat) t v, Try.f6.params[j]? = some t → args[j]? = some v → Value.okWide Try.prog W .any base t v := hval0
  have hW' := hW
  obtain ⟨p, q, hA0, hV, rfl, hfz, hnd⟩ := hW
  have hA : DataW.TrodAll enc Try.prog W 0 (fun _ => true) true Try.f6.params.toList args.toList ds p := hA0
  rw [Try.params6] at hA hval
  obtain ⟨v0, vs0, d0, ds0, p0, q0, hargs, rfl, rfl, h0, r0⟩ := trodAll_cons hA
  obtain ⟨rfl, rfl, rfl⟩ := trodAll_nil r0
  obtain rfl : args = #[v0] := by cases args; simp_all
  obtain ⟨rfl, rfl⟩ := trodVars_none hV
  have k0 := h0
  have lt0 : ∀ x ∈ p0, x.block < W.heap.size := by obtain ⟨m, hm⟩ := k0; exact DataW.trod_lt m _ _ _ hm
  obtain ⟨l0, b0⟩ := open_rows Try.underlying44 Try.underlying22 Try.underlying5 (by kernel_rfl) (by kernel_rfl) (hval 0 44 v0 rfl rfl) h0
  clear hA0 hval0
  refine (walk_CrcParts W v0 l0 b0).mono fun e W' ⟨he, bel⟩ => ?_
  subst he
  exact ⟨_, rfl, _, _, _, [], _, [], hW', trodAll_mk1 (shut_bool Try.underlying4 _), (trodAll_cons_mk (Below.trod laidOut (by kernel_rfl) (of_decide_eq_true (by kernel_rfl)) k0 bel lt0) trodAll_mk0), rfl, bel.frame _, fun h => by cases h⟩

theorem over : Rows.crcPartsRow.holds Try.pinned (OpenSpec.ofChange Rows.crcPartsSpec) :=
  OpenClaim.holds_of_wide 6 Try.f6 rfl rfl rfl rfl rfl rfl rfl ⟨rfl, rfl, rfl, rfl, rfl⟩ rfl rfl rfl rfl rfl (by kernel_rfl) Try.func6 (by kernel_rfl)
    (of_decide_eq_true (by kernel_rfl)) (by unfold Func.isWrapper; first | (rw [if_pos (by decide +kernel)]; kernel_rfl) | (rw [if_neg (by decide +kernel)]; exact ⟨rfl, rfl⟩))
    (fun os started H enc _ => lifted os started H enc)

theorem proved : Rows.CrcPartsSaid := over
end lawCrcParts
end Go.Proofs.Ytdbnjejpejmmjaa
