/- Parts of the document's answer for deslip. -/
import Derived.Test.YtdbnjejpejmmjaaDeslipRef
namespace Go.Proofs.Ytdbnjejpejmmjaa
open Go.ChangeShapes Go.WideShapes Go.ChangeAt Go.RowKit
set_option linter.unusedVariables false

theorem bytes_all {w w' : World} {v : Value} {l : List UInt8} (h : IsBytes w v l) (ha : (all w).on w') : IsBytes w' v l := by
  have hsz : w.heap.size ≤ w'.heap.size := by
    obtain ⟨x, hx, hy⟩ := ha
    by_cases h0 : w.heap.size = 0
    · omega
    · have h1 := hy (w.heap.size - 1) (by omega)
      have h2 : x (w.heap.size - 1) = some (w.heap[w.heap.size - 1]'(by omega)) := by rw [h1]; simp
      have h3 := hx _ _ h2
      have h4 := (Array.getElem?_eq_some_iff.1 h3).1
      omega
  have hs : Str w { w with heap := w'.heap } := ⟨rfl, rfl, rfl, hsz⟩
  have h2 : IsBytes { w with heap := w'.heap } v l := h.below (all_below (w' := { w with heap := w'.heap }) (SP.on_of_heap ha rfl) hs)
  exact h2

set_option maxRecDepth 100000 in
set_option maxHeartbeats 4000000 in
theorem parts_any (v : Value) (b : List UInt8) (w : World) (h : IsBytes w v b) (hlen : b.length ≤ 1000000) :
    Calls Try.prog 54 #[v] w fun e w' => ∃ out, e = .returned out ∧ PartsAt w out (partsF b) w' ∧ Str w w' := by
  have H := hide h
  obtain ⟨a, c, rfl, hc, hm, _, _⟩ := h
  obtain ⟨ie, hie, hz, hsz, hby⟩ := info_some infoB
  have hue := Try.underlying44
  have Hie := hide hie
  have Hz := hide hz
  have Hsz := hide hsz
  have Hby := hide hby
  clear hie hz hsz hby
  unfold maxLen at hm
  go_enter Try.func54, Try.ntmps54
  go_wp2_with fail
  go_loopw [3, 4, 5] (fun o f i wr => ∃ (from' k : Nat) (ps : List (List UInt8)), k ≤ b.length ∧ from' ≤ k ∧ f = .int .i64 from' ∧ i = .int .i64 k ∧ (∀ j, from' ≤ j → j < k → b.getD j 0 ≠ 192) ∧ ps ++ partsF (b.drop from') = partsF b ∧ ps.length ≤ k ∧ PartsAt w o ps wr ∧ Str w wr) (fun _ _ i _ => b.length - (intOf i).toNat)
  case atStart => exact ⟨0, 0, [], by omega, by omega, rfl, rfl, fun j h1 h2 => by omega, by simp, by simp, PartsAt.nil w, Str.refl _⟩
  case round =>
    obtain ⟨from', k, ps, hk, hfk, rfl, rfl, hno, hps, hpl, hpa, hstr⟩ := hrel
    obtain ⟨vals, ho, hvl, hv1, hvp⟩ := hpa
    by_cases hkl : k < b.length
    · obtain ⟨bv, offv, rfl⟩ : ∃ bv offv, a = some ⟨bv, offv, Option.none⟩ := by
        obtain ⟨_, _, e, _, _, h3, _⟩ := H.out
        simp only [Value.slice.injEq] at e
        obtain ⟨rfl, _, rfl⟩ := e
        exact Lay.isAddr h3 k (by simpa using hkl)
      have cb : wr.cell? ⟨bv, offv + k, Option.none⟩ = some (vb (b.getD k 0)) := by
        obtain ⟨_, _, e, _, _, h3, _⟩ := bytes_all H.out ho.right
        simp only [Value.slice.injEq] at e
        obtain ⟨rfl, _, rfl⟩ := e
        have := Lay.cell h3 k (vbs_get b k hkl)
        rw [this, List.getD_eq_getElem?_getD, List.getElem?_eq_getElem hkl]
        rfl
      by_cases h192 : b.getD k 0 = 192
      · have hpst := parts_step hkl hfk hno h192
        rw [h192] at cb
        have Hps := hide (show (ps ++ [(b.drop from').take (k + 1 - from')]) ++ partsF (b.drop (k + 1)) = partsF b by rw [← hps, hpst]; simp)
        have Hx := hide (sub_bytes H.out from' (k + 1 - from') (by omega))
        have Ho := hide ho
        have Hvl := hide hvl
        have Hv1 := hide hv1
        have Hvp := hide hvp
        have Hstr := hide hstr
        clear ho hvl hv1 hvp hps hpst hno hstr h192
        have e1 : ((k : Int) + 1 - (from' : Int)) = ((k + 1 - from' : Nat) : Int) := by omega
        go_wp2_with (at_builtin; refine wpList_append_sp (F := all w) rfl _ _ 44 rfl 22 ie _ 1 24 hue Hie.out Hz.out Hsz.out Hby.out rfl (by decide) _ ps.length vals rfl (Ho.out.alloc' _) (some ⟨wr.heap.size, 0, Option.none⟩) 1 1 [.slice (some ⟨bv, offv + from', Option.none⟩) (k + 1 - from') (c - from')] rfl (by simp) rfl (Lay.new _ _ _) (by intro u hu; simp at hu; rw [hu]; rfl) (by unfold maxLen; omega) (by omega) ?_; intro v2 w2 ho2 hs2)
        exact ⟨⟨k + 1, k + 1, _, by omega, by omega, by simp, by simp, fun j h1 h2 => by omega, Hps.out, by simp; omega, PartsAt.push Hvl.out Hv1.out Hvp.out Hx.out ho2, (Hstr.out.alloc _).trans hs2⟩, by simp [intOf]; omega⟩
      · have Ho := hide ho
        have Hstr := hide hstr
        have Hpa := hide (show PartsAt w _ ps wr from ⟨vals, ho, hvl, hv1, hvp⟩)
        have Hno := hide (show ∀ j, from' ≤ j → j < k + 1 → b.getD j 0 ≠ 192 from fun j h1 h2 => by
          by_cases h3 : j < k
          · exact hno j h1 h3
          · rw [show j = k by omega]; exact h192)
        have e0 := bne_u8 h192
        rw [show (((192 : UInt8).toNat : Nat) : Int) = 192 from rfl] at e0
        have Hps := hide hps
        clear ho hvl hv1 hvp hps hno hstr h192
        generalize b.getD k 0 = cc at cb e0
        go_wp2_with fail
        exact ⟨⟨from', k + 1, ps, by omega, by omega, rfl, by simp, Hno.out, Hps.out, by omega, Hpa.out, Hstr.out⟩, by simp [intOf]; omega⟩
    · have hkb : k = b.length := by omega
      subst hkb
      rw [parts_last hno] at hps
      have Hps := hide hps
      have Ho := hide ho
      have Hvl := hide hvl
      have Hv1 := hide hv1
      have Hvp := hide hvp
      have Hstr := hide hstr
      clear ho hvl hv1 hvp hps hno hstr
      cases a with
      | none =>
        obtain ⟨_, _, e, _, _, _, hn⟩ := H.out
        simp only [Value.slice.injEq] at e
        obtain ⟨rfl, _, rfl⟩ := e
        have hc0 := hn rfl
        subst hc0
        have hb0 : b.length = 0 := by omega
        have hf0 : from' = 0 := by omega
        subst hf0
        have Hx : Hid (IsBytes w (.slice Option.none 0 0) (b.drop 0)) := hide (by
          have : b = [] := List.length_eq_zero_iff.1 hb0
          rw [this]; exact IsBytes.nil w)
        clear hn
        go_wp2_with (at_builtin; refine wpList_append_sp (F := all w) rfl _ _ 44 rfl 22 ie _ 1 24 hue Hie.out Hz.out Hsz.out Hby.out rfl (by decide) _ ps.length vals rfl (Ho.out.alloc' _) (some ⟨wr.heap.size, 0, Option.none⟩) 1 1 [.slice Option.none 0 0] rfl (by simp) rfl (Lay.new _ _ _) (by intro u hu; simp at hu; rw [hu]; rfl) (by unfold maxLen; omega) (by omega) ?_; intro v2 w2 ho2 hs2)
        go_wp2_with fail
        go_ret
        exact ⟨_, rfl, by rw [← Hps.out]; exact PartsAt.push Hvl.out Hv1.out Hvp.out Hx.out ho2, (Hstr.out.alloc _).trans hs2⟩
      | some ad =>
        by_cases hb0 : b.length = 0
        · have hf0 : from' = 0 := by omega
          subst hf0
          have Hx : Hid (IsBytes w (.slice (some ad) 0 c) (b.drop 0)) := hide (by
            have : b = [] := List.length_eq_zero_iff.1 hb0
            rw [this]; exact ⟨_, _, rfl, Nat.zero_le _, by unfold maxLen; omega, Lay.nil _ _, by simp⟩)
          go_wp2_with (at_builtin; refine wpList_append_sp (F := all w) rfl _ _ 44 rfl 22 ie _ 1 24 hue Hie.out Hz.out Hsz.out Hby.out rfl (by decide) _ ps.length vals rfl (Ho.out.alloc' _) (some ⟨wr.heap.size, 0, Option.none⟩) 1 1 [.slice (some ad) 0 c] rfl (by simp) rfl (Lay.new _ _ _) (by intro u hu; simp at hu; rw [hu]; rfl) (by unfold maxLen; omega) (by omega) ?_; intro v2 w2 ho2 hs2)
          go_wp2_with fail
          go_ret
          exact ⟨_, rfl, by rw [← Hps.out]; exact PartsAt.push Hvl.out Hv1.out Hvp.out Hx.out ho2, (Hstr.out.alloc _).trans hs2⟩
        obtain ⟨bv, offv, hp⟩ : ∃ bv offv, ad = ⟨bv, offv, Option.none⟩ := by
          obtain ⟨_, _, e, _, _, h3, _⟩ := H.out
          simp only [Value.slice.injEq] at e
          obtain ⟨he, _, _⟩ := e
          obtain ⟨x, y, hxy⟩ := Lay.isAddr h3 0 (by simp; omega)
          rw [← he] at hxy
          exact ⟨x, y, Option.some.inj hxy⟩
        subst hp
        by_cases hfc : from' = c
        · have hbc : b.length = c := by omega
          have Hx : Hid (IsBytes w (.slice (some ⟨bv, offv, Option.none⟩) 0 0) (b.drop from')) := hide (by
            rw [List.drop_eq_nil_of_le (by omega)]
            exact ⟨_, _, rfl, Nat.zero_le _, Nat.zero_le _, Lay.nil _ _, by simp⟩)
          subst hfc
          go_wp2_with (at_builtin; refine wpList_append_sp (F := all w) rfl _ _ 44 rfl 22 ie _ 1 24 hue Hie.out Hz.out Hsz.out Hby.out rfl (by decide) _ ps.length vals rfl (Ho.out.alloc' _) (some ⟨wr.heap.size, 0, Option.none⟩) 1 1 [.slice (some ⟨bv, offv, Option.none⟩) 0 0] rfl (by simp) rfl (Lay.new _ _ _) (by intro u hu; simp at hu; rw [hu]; rfl) (by unfold maxLen; omega) (by omega) ?_; intro v2 w2 ho2 hs2)
          go_wp2_with fail
          go_ret
          exact ⟨_, rfl, by rw [← Hps.out]; exact PartsAt.push Hvl.out Hv1.out Hvp.out Hx.out ho2, (Hstr.out.alloc _).trans hs2⟩
        · have hfc2 : from' < c := by omega
          have Hx : Hid (IsBytes w (.slice (some ⟨bv, offv + from', Option.none⟩) (b.length - from') (c - from')) (b.drop from')) := hide (by
            have := sub_bytes H.out from' (b.length - from') (by omega)
            rw [List.take_of_length_le (by simp)] at this
            exact this)
          clear hfc
          go_wp2_with (at_builtin; refine wpList_append_sp (F := all w) rfl _ _ 44 rfl 22 ie _ 1 24 hue Hie.out Hz.out Hsz.out Hby.out rfl (by decide) _ ps.length vals rfl (Ho.out.alloc' _) (some ⟨wr.heap.size, 0, Option.none⟩) 1 1 [.slice (some ⟨bv, offv + from', Option.none⟩) (b.length - from') (c - from')] rfl (by simp) rfl (Lay.new _ _ _) (by intro u hu; simp at hu; rw [hu]; rfl) (by unfold maxLen; omega) (by omega) ?_; intro v2 w2 ho2 hs2)
          go_wp2_with fail
          go_ret
          exact ⟨_, rfl, by rw [← Hps.out]; exact PartsAt.push Hvl.out Hv1.out Hvp.out Hx.out ho2, (Hstr.out.alloc _).trans hs2⟩
end Go.Proofs.Ytdbnjejpejmmjaa
