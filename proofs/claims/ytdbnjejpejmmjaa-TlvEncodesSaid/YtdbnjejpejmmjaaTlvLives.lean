/- The chapter's example of tlv. -/
import Derived.Test.YtdbnjejpejmmjaaTlv5
import Derived.Test.YtdbnjejpejmmjaaOpen
namespace Go.Proofs.Ytdbnjejpejmmjaa
open Go.ChangeShapes Go.WideShapes Go.ChangeAt Go.RowKit
set_option linter.unusedVariables false

theorem lives11_parse : parseF 4 [1, 2, 7, 8] 0 [] = ([⟨1, [7, 8]⟩], 0) := by rfl
theorem str_of_vals {w : World} {v : Value} {l : List UInt8} (h : IsBytes w v l) : ∃ a c, v = .slice a l.length c ∧ Lay w a (vbs l) := by
  obtain ⟨a, c, h1, _, _, h4, _⟩ := h
  exact ⟨a, c, h1, h4⟩

set_option maxRecDepth 100000 in
set_option maxHeartbeats 2000000 in
theorem lives11_any (w : World) : Calls Try.prog 41 #[] w fun e w' => e = .returned (.bool true) ∧ Below w.heap.size w w' := by
  have hb0 := IsBytes.new w [1, 2, 7, 8] (by decide) 5
  have HP := hide (tparse_any _ _ _ hb0 (by simp))
  simp only [List.length_cons, List.length_nil, Nat.zero_add, Nat.reduceAdd] at HP
  rw [lives11_parse] at HP
  have hbl : Below w.heap.size w (w.alloc (.cells (vbs [1, 2, 7, 8]).toArray 5)) := (Below.refl _ _).alloc (Nat.le_refl _) _
  have HB := hide hbl
  clear hb0 hbl
  go_enter Try.func41, Try.ntmps41
  go_wp2_with fail
  refine HP.out.mono ?_
  rintro e w2 ⟨out, L, rfl, hL, h2, hs2⟩
  match L, hL, h2 with
  | [], hL, h2 => simp at hL
  | [(u, x)], hL, h2 =>
    simp at hL
    subst hL
    have hB2 := HB.out.trans ((all_below h2.right hs2).mono HB.out.size)
    obtain ⟨a, c, rfl, hc, hm, hla, hin⟩ := Its.lay h2
    have q1 := hla 0 (vb 1) rfl
    have q2 := hla 1 u rfl
    obtain ⟨bg, bo, rfl, q1⟩ := q1
    obtain ⟨bg', bo', e', q2⟩ := q2
    simp only [Option.some.injEq, Addr.mk.injEq] at e'
    obtain ⟨rfl, rfl, _⟩ := e'
    obtain ⟨ua, uc, rfl, hul⟩ := str_of_vals (hin 0 u _ rfl)
    have hsu := Try.underlying22
    have hsb := Try.underlying5
    have hst := Try.underlying9
    have k1 := run_string_of (P := Try.prog) (w := w2) (c := uc) hsu hsb hul _ hst
    have HB2 := hide hB2
    simp only [List.length_cons, List.length_nil, Nat.zero_add, Nat.reduceAdd, Nat.add_zero] at q1 q2 k1
    clear hL h2 hs2 hla hin hul hB2
    go_wp2_with fail
    go_ret
    exact ⟨rfl, HB2.out⟩
  | _ :: _ :: _, hL, h2 => simp at hL
end Go.Proofs.Ytdbnjejpejmmjaa
