/- Two lists of events that are the same. -/
import Derived.Test.YtdbnjejpejmmjaaDeslipParts
import Derived.Deep.QuietTactic
import Derived.BigQuiet
namespace Go.Proofs.Ytdbnjejpejmmjaa
open Go.ChangeShapes Go.WideShapes Go.ChangeAt Go.RowKit
set_option linter.unusedVariables false

theorem Evs.lay {F : SP} {w : World} {v : Value} {L : List (Value × Ev)} (h : (Evs v L * F).on w) : ∃ a c, v = .slice a L.length c ∧ L.length ≤ c ∧ c ≤ maxLen ∧ Lay w a (evCells L) ∧ ∀ (i : Nat) (u : Value) (e : Ev), L[i]? = some (u, e) → IsBytes w u e.frame := by
  unfold Evs at h
  rw [SP.mul_assoc] at h
  obtain ⟨a, c, h1, h2, h3, h4, _⟩ := own_value h
  exact ⟨a, c, h1, h2, h3, h4, fun i u e he => stars_get L i u e h.right he⟩

set_option maxRecDepth 100000 in
set_option maxHeartbeats 4000000 in
theorem same10_any (v1 v2 : Value) (L1 L2 : List (Value × Ev)) (F1 F2 : SP) (w : World) (h1 : (Evs v1 L1 * F1).on w) (h2 : (Evs v2 L2 * F2).on w) (he : L1.map Prod.snd = L2.map Prod.snd) (hlen : L1.length ≤ 1000000) :
    Calls Try.prog 37 #[v1, v2] w fun e w' => e = .returned (.bool true) ∧ Below w.heap.size w w' := by
  obtain ⟨a1, c1, rfl, hc1, hm1, hl1, hb1⟩ := Evs.lay h1
  obtain ⟨a2, c2, rfl, hc2, hm2, hl2, hb2⟩ := Evs.lay h2
  have hll : L2.length = L1.length := by have := congrArg List.length he; simpa using this.symm
  rw [hll] at hc2 ⊢
  unfold maxLen at hm1 hm2
  have Hl1 := hide hl1
  have Hl2 := hide hl2
  have Hb1 := hide hb1
  have Hb2 := hide hb2
  have He := hide he
  have Hll := hide hll
  clear hl1 hl2 hb1 hb2 he hll h1 h2
  go_enter Try.func37, Try.ntmps37
  go_wp2_with fail
  go_loopw [13] (fun i wr => ∃ k : Nat, k ≤ L1.length ∧ i = .int .i64 k ∧ Below w.heap.size w wr) (fun i _ => L1.length - (intOf i).toNat)
  case atStart => exact ⟨0, by omega, rfl, Below.refl _ _⟩
  case round =>
    obtain ⟨k, hk, rfl, hB⟩ := hrel
    by_cases hkl : k < L1.length
    · obtain ⟨⟨u1, e1⟩, hk1⟩ : ∃ y, L1[k]? = some y := ⟨_, List.getElem?_eq_getElem hkl⟩
      obtain ⟨u2, hk2⟩ := evs_at He.out.symm k e1 (by rw [List.getElem?_map, hk1]; rfl)
      obtain ⟨p1, p2, p3⟩ := evCells_get L1 k _ _ hk1
      obtain ⟨q1, q2, q3⟩ := evCells_get L2 k _ _ hk2
      obtain ⟨g1, o1, rfl⟩ : ∃ b off, a1 = some ⟨b, off, Option.none⟩ := by obtain ⟨b, off, e, _⟩ := Hl1.out _ _ p1; exact ⟨b, off, e⟩
      obtain ⟨g2, o2, rfl⟩ : ∃ b off, a2 = some ⟨b, off, Option.none⟩ := by obtain ⟨b, off, e, _⟩ := Hl2.out _ _ q1; exact ⟨b, off, e⟩
      have x1 := Lay.cell (Hl1.out.below hB) _ p1
      have x2 := Lay.cell (Hl1.out.below hB) _ p2
      have x3 := Lay.cell (Hl1.out.below hB) _ p3
      have y1 := Lay.cell (Hl2.out.below hB) _ q1
      have y2 := Lay.cell (Hl2.out.below hB) _ q2
      have y3 := Lay.cell (Hl2.out.below hB) _ q3
      obtain ⟨f1, d1, rfl, _, _, hf1, _⟩ := (Hb1.out _ _ _ hk1).below hB
      obtain ⟨f2, d2, rfl, _, _, hf2, _⟩ := (Hb2.out _ _ _ hk2).below hB
      have hsu := Try.underlying22
      have hsb := Try.underlying5
      have hst := Try.underlying9
      have k1 := fun n => run_string_of (P := Try.prog) (w := wr.drewN n) (c := d1) hsu hsb (show Lay (wr.drewN n) f1 (vbs e1.frame) from fun i v e => by
        obtain ⟨b, off, h1, h2⟩ := hf1 i v e
        exact ⟨b, off, h1, by simpa using h2⟩) _ hst
      have k2 := fun n => run_string_of (P := Try.prog) (w := wr.drewN n) (c := d2) hsu hsb (show Lay (wr.drewN n) f2 (vbs e1.frame) from fun i v e => by
        obtain ⟨b, off, h1, h2⟩ := hf2 i v e
        exact ⟨b, off, h1, by simpa using h2⟩) _ hst
      have HB := hide hB
      simp only [← Nat.add_assoc] at x2 x3 y2 y3
      generalize e1.frame = fr at *
      generalize (e1.kind : Int) = kk at *
      generalize (e1.err : Int) = ee at *
      clear p1 p2 p3 q1 q2 q3 hk1 hk2 hf1 hf2 hB
      have hki : (k : Int) < (L1.length : Int) := by omega
      have hk0 : (0 : Int) ≤ (k : Int) := by omega
      have ekk : (kk != kk) = false := by simp
      have eee : (ee != ee) = false := by simp
      go_wp2_with fail
      go_quiet (fail)
      go_wp2_with fail
      exact ⟨⟨k + 1, by omega, by simp, HB.out.trans ⟨rfl, rfl, rfl, Nat.le_refl _, fun _ _ => rfl⟩⟩, by simp [intOf]; omega⟩
    · have HB := hide hB
      clear hB
      go_wp2_with fail
      go_ret
      exact ⟨rfl, HB.out⟩
end Go.Proofs.Ytdbnjejpejmmjaa
