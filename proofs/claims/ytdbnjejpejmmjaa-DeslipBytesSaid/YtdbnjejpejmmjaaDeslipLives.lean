/- The chapter's example of deslip. -/
import Derived.Test.YtdbnjejpejmmjaaDeslip2
import Derived.Test.YtdbnjejpejmmjaaOpen
namespace Go.Proofs.Ytdbnjejpejmmjaa
open Go.ChangeShapes Go.WideShapes Go.ChangeAt Go.RowKit
set_option linter.unusedVariables false

theorem evs_at {L : List (Value × Ev)} {E : List Ev} (h : L.map Prod.snd = E) (i : Nat) (e : Ev) (he : E[i]? = some e) : ∃ v, L[i]? = some (v, e) := by
  rw [← h, List.getElem?_map, Option.map_eq_some_iff] at he
  obtain ⟨⟨v, e'⟩, h1, h2⟩ := he
  exact ⟨v, by rw [h1, ← h2]⟩
theorem own_lay {F : SP} {w : World} {e : TypeId} {size g n cap : Nat} {xs : List Value} (h : (own e size (.slice (some ⟨g, 0, Option.none⟩) n cap) n xs * F).on w) (j : Nat) (v : Value) (hj : xs[j]? = some v) : w.cell? ⟨g, j, Option.none⟩ = some v := by
  obtain ⟨a, c, e, _, _, hl, _⟩ := own_value h
  simp only [Value.slice.injEq] at e
  obtain ⟨rfl, _, _⟩ := e
  have := Lay.cell hl j hj
  simpa using this
theorem Bytes.blk {w : World} {g : Nat} {l : List UInt8} {t : TypeId} {F : SP} (h : (blk g (.cells (vbs l).toArray t (0, 0)) * F).on w) (hl : l.length ≤ maxLen) : IsBytes w (.slice (some ⟨g, 0, Option.none⟩) l.length l.length) l := by
  have h2 : (own t 1 (.slice (some ⟨g, 0, Option.none⟩) l.length l.length) l.length (vbs l) * F).on w := own_of_blk h (by simp) (Nat.le_refl _) hl (by simp) (by rw [Nat.mul_one]; exact List.take_of_length_le (by simp))
  exact own_bytes h2
theorem lives10_evs : (feedK ⟨[], 9, false, false⟩ [219, 1, 2, 192, 3, 192] 6).1 = [⟨0, [], 0⟩, ⟨2, [], 7⟩, ⟨0, [], 0⟩, ⟨0, [], 0⟩, ⟨0, [], 0⟩, ⟨1, [3], 0⟩] := by kernel_rfl
theorem dnew_ok {m : Nat} (h : m ≤ 65536) : (DsS.mk [] m false false).Ok := ⟨h, Nat.zero_le _⟩

set_option maxRecDepth 100000 in
set_option maxHeartbeats 2000000 in
theorem lives10_any (w : World) : Calls Try.prog 35 #[] w fun e w' => e = .returned (.bool true) ∧ Below w.heap.size w w' := by
  go_enter Try.func35, Try.ntmps35
  go_wp2_with fail
  refine (dnew_any 9 (by omega) (by omega) w).mono ?_
  rintro e w1 ⟨v, rfl, ho, hs⟩
  obtain ⟨p, rfl, ho2⟩ := dnewQ.out ho
  have h1 := ho2.alloc (.cells (vbs [219, 1, 2, 192, 3, 192]).toArray 5)
  rw [SP.mul_left_comm] at h1
  have HF := hide (feedl_any p _ _ _ h1 (dnew_ok (by omega)) (.slice (some ⟨w1.heap.size, 0, Option.none⟩) 6 6) [219, 1, 2, 192, 3, 192] (by simp) (fun w h => Bytes.blk (l := [219, 1, 2, 192, 3, 192]) h (by decide)))
  rw [show ([219, 1, 2, 192, 3, 192] : List UInt8).length = 6 from rfl, lives10_evs] at HF
  have HS := hide (hs.alloc (.cells (vbs [219, 1, 2, 192, 3, 192]).toArray 5))
  clear ho ho2 hs h1
  go_wp2_with fail
  refine HF.out.mono ?_
  rintro e w2 ⟨out, L, rfl, hL, h2, hs2⟩
  have hB := all_below h2.right.right.right (HS.out.trans hs2)
  have hLl : L.length = 6 := by have := congrArg List.length hL; simpa using this
  obtain ⟨v1, q1⟩ := evs_at hL 1 _ rfl
  obtain ⟨v3, q3⟩ := evs_at hL 3 _ rfl
  obtain ⟨v5, q5⟩ := evs_at hL 5 _ rfl
  have h3 : (own 59 3 out 6 (evCells L) * (stars L * (Dec p (feedK ⟨[], 9, false, false⟩ [219, 1, 2, 192, 3, 192] 6).2 * (blk w1.heap.size (.cells (vbs [219, 1, 2, 192, 3, 192]).toArray 5 (0, 0)) * all w)))).on w2 := by
    unfold Evs at h2
    rw [hLl, SP.mul_assoc] at h2
    exact h2
  obtain ⟨g, cap, rfl, hc1, hc2⟩ := own_block h3 (by omega)
  have d1 := own_lay h3 _ _ (evCells_get L 1 _ _ q1).2.2
  have d3 := own_lay h3 _ _ (evCells_get L 3 _ _ q3).1
  have d5 := own_lay h3 _ _ (evCells_get L 5 _ _ q5).2.1
  have b5 := stars_get L 5 v5 _ h3.right q5
  obtain ⟨a5, c5, rfl, _, _, hl5, _⟩ := b5
  have hsu := Try.underlying22
  have hsb := Try.underlying5
  have k1 := run_string_of (P := Try.prog) (w := w2) (c := c5) hsu hsb hl5
  rw [show ([3] : List UInt8).length = 1 from rfl] at k1 d5
  have hst := Try.underlying9
  have HB := hide hB
  clear hB h2 h3 hL q1 q3 q5 hl5 hs2 HF HS
  unfold maxLen at hc2
  simp only [Nat.reduceMul, Nat.reduceAdd] at d1 d3 d5
  go_wp2_with fail
  go_ret
  exact ⟨rfl, HB.out⟩

theorem feed_nil (c : Int) (w : World) : Calls Try.prog 40 #[.pointer Option.none, .int .u8 c] w fun e w' => e = .returned (.tuple #[.slice Option.none 0 0, .int .i64 1]) ∧ w = w' := by
  go_enter Try.func40, Try.ntmps40
  go_wp2_with fail
  go_ret2
  exact ⟨rfl, rfl⟩
end Go.Proofs.Ytdbnjejpejmmjaa
