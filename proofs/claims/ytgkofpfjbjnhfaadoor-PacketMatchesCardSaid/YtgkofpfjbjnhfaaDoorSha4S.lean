/- SHA-2 on words of 32 bits: a hash takes bytes. -/
import Derived.Test.YtgkofpfjbjnhfaaDoorSha3S
namespace Go.Proofs.YtgkofpfjbjnhfaaDoor
open Go.ChangeShapes Go.WideShapes Go.ChangeAt Go.RowKit
namespace Sha32
set_option linter.unusedVariables false
set_option linter.unusedSimpArgs false

/-- what is left of bytes behind the whole blocks -/
def Left (l left : List UInt8) : Prop := left.length = 64 ∧ left.take (l.length % 64) = l.drop (64 * (l.length / 64))
def sta (l : List UInt8) : St := stK l (l.length / 64)
def Sha (p : Nat) (l : List UInt8) : SP := ex fun left => pure (Left l left) * blk p (.cells (cells (sta l) left l.length) 147 (0, 0))
theorem Sha.open {p : Nat} {l : List UInt8} {F : SP} {w : World} (h : (Sha p l * F).on w) : ∃ left, Left l left ∧ (blk p (.cells (cells (sta l) left l.length) 147 (0, 0)) * F).on w := by
  obtain ⟨left, h⟩ := on_ex_mul.1 h
  rw [SP.mul_assoc] at h
  obtain ⟨h1, h2⟩ := on_pure_mul.1 h
  exact ⟨left, h1, h2⟩
theorem Sha.shut {p : Nat} {l left : List UInt8} {F : SP} {w : World} (h1 : Left l left) (h : (blk p (.cells (cells (sta l) left l.length) 147 (0, 0)) * F).on w) : (Sha p l * F).on w :=
  on_ex_mul.2 ⟨left, by rw [SP.mul_assoc]; exact on_pure_mul.2 ⟨h1, h⟩⟩

theorem set_take (left : List UInt8) (m : Nat) (c : UInt8) (h : m < left.length) : (left.set m c).take (m + 1) = left.take m ++ [c] := by
  rw [List.take_succ_eq_append_getElem (by simpa using h)]
  simp [List.take_set_of_le]
theorem step_part {l left : List UInt8} (c : UInt8) (h : Left l left) (hm : l.length % 64 + 1 < 64) : Left (l ++ [c]) (left.set (l.length % 64) c) ∧ sta (l ++ [c]) = sta l := by
  obtain ⟨h1, h2⟩ := h
  have e1 : (l ++ [c]).length % 64 = l.length % 64 + 1 := by simp; omega
  have e2 : (l ++ [c]).length / 64 = l.length / 64 := by simp; omega
  refine ⟨⟨by simpa using h1, ?_⟩, ?_⟩
  · rw [e1, e2, set_take _ _ _ (by omega), h2, List.drop_append_of_le_length (by omega)]
  · unfold sta
    rw [e2, stK_append l [c] _ (by omega)]
theorem step_full {l left : List UInt8} (c : UInt8) (h : Left l left) (hm : l.length % 64 + 1 = 64) : Left (l ++ [c]) (left.set (l.length % 64) c) ∧ sta (l ++ [c]) = compress (sta l) (left.set (l.length % 64) c) := by
  obtain ⟨h1, h2⟩ := h
  have e1 : (l ++ [c]).length % 64 = 0 := by simp; omega
  have e2 : (l ++ [c]).length / 64 = l.length / 64 + 1 := by simp; omega
  have hset : left.set (l.length % 64) c = (left.set (l.length % 64) c).take (l.length % 64 + 1) := by
    rw [List.take_of_length_le (by simp; omega)]
  have hd : (l ++ [c]).drop (64 * (l.length / 64)) = left.set (l.length % 64) c := by
    rw [List.drop_append_of_le_length (by omega), ← h2, hset, set_take _ _ _ (by omega)]
  refine ⟨⟨by simpa using h1, ?_⟩, ?_⟩
  · rw [e1, e2, List.take_zero, List.drop_eq_nil_of_le (by simp; omega)]
  · unfold sta
    rw [e2]
    simp only [stK]
    rw [stK_append l [c] _ (by omega), hd, List.take_of_length_le (by simp; omega)]

set_option maxRecDepth 100000 in
set_option maxHeartbeats 8000000 in
theorem write_any (p : Nat) (l : List UInt8) (v : Value) (b : List UInt8) (F : SP) (w : World) (h : (Sha p l * F).on w) (hT : ∀ X, F.on X → Tab X) (hb : ∀ X, F.on X → IsBytes X v b) (hlen : l.length + b.length ≤ 1099511627776) :
    Calls Tryd.prog 100 #[.pointer (some ⟨p, 0, Option.none⟩), v] w fun e w' => (∃ u, e = .returned u) ∧ (Sha p (l ++ b) * F).on w' ∧ Str w w' := by
  have hb0 := hb w h.right
  have Hh := hide h
  have HT := hide hT
  have Hb := hide hb
  obtain ⟨a, cap, rfl, hc, hm, _, _⟩ := hb0
  unfold maxLen at hm
  clear h hT hb
  go_enter Tryd.func100, Tryd.ntmps100
  go_wp2_with fail
  go_loopw [11] (fun i wr => ∃ k : Nat, k ≤ b.length ∧ i = .int .i64 k ∧ (Sha p (l ++ b.take k) * F).on wr ∧ Str w wr) (fun i _ => b.length - (intOf i).toNat)
  case atStart => exact ⟨0, Nat.zero_le _, rfl, by rw [List.take_zero, List.append_nil]; exact Hh.out, Str.refl _⟩
  case round =>
    obtain ⟨k, hk, rfl, hw, hstr⟩ := hrel
    by_cases hlt : k < b.length
    · obtain ⟨left, hL, hw⟩ := Sha.open hw
      obtain ⟨_, _, e1, _, _, hl, _⟩ := Hb.out _ hw.right
      simp only [Value.slice.injEq] at e1
      obtain ⟨e11, _, e12⟩ := e1
      subst e11 e12
      obtain ⟨bg, bo, rfl⟩ := hl.isAddr k (by simpa using hlt)
      have cb := Lay.cell hl k (vbs_get _ k hlt)
      have HN := hide (show l ++ b.take (k + 1) = (l ++ b.take k) ++ [b[k]] by rw [List.take_succ_eq_append_getElem hlt, List.append_assoc])
      have hll : (l ++ b.take k).length ≤ 1099511627776 := by rw [List.length_append, List.length_take]; omega
      generalize l ++ b.take k = lk at *
      generalize b[k] = c at *
      have hleft : left.length = 64 := hL.1
      have hmb : lk.length % 64 < 64 := Nat.mod_lt _ (by decide)
      have cn := cell_of_blk hw 72 (cells_n _ left lk.length hleft)
      obtain ⟨lold, cl⟩ : ∃ x, wr.cell? ⟨p, 8 + lk.length % 64, Option.none⟩ = some (vb x) := ⟨_, cell_of_blk hw (8 + lk.length % 64) (cells_left _ left lk.length (lk.length % 64) (by omega))⟩
      have fr := fun j => frozen_of_row _ p j _ _ (on_blk_mul hw)
      have cn2 : (wr.setCell ⟨p, 8 + lk.length % 64, Option.none⟩ (vb c)).cell? ⟨p, 72, Option.none⟩ = some (.int .u64 (lk.length : Int)) := by
        have h9 := hw.setCell (i := 8 + lk.length % 64) (vb c)
        rw [cells_set_left _ _ _ _ _ (by omega)] at h9
        exact cell_of_blk h9 72 (cells_n _ _ lk.length (by simpa using hleft))
      have hset := (hw.setCell (i := 8 + lk.length % 64) (vb c)).setCell (i := 72) (.int .u64 ((lk.length + 1 : Nat) : Int))
      rw [cells_set_left _ _ _ _ _ (by omega), cells_set_n _ _ _ _ (by simpa using hleft)] at hset
      have HSt := hide hstr
      have HL := hide hL
      have fr2 : (wr.setCell ⟨p, 8 + lk.length % 64, Option.none⟩ (vb c)).frozen? ⟨p, 72, Option.none⟩ = false := frozen_of_row _ p _ _ _ (on_blk_mul (hw.setCell (i := 8 + lk.length % 64) (vb c)))
      have HSet := hide hset
      have fr1 := fr (8 + lk.length % 64)
      have hlk1 : (lk ++ [c]).length = lk.length + 1 := by simp
      have HLk1 := hide hlk1
      clear hset hw hstr hL hl fr hleft hlk1 Hh
      generalize hmm : lk.length % 64 = m at *
      have hrem : ((lk.length : Nat) : Int) % 64 = (m : Int) := by omega
      have Hmm := hide hmm
      clear hmm
      by_cases h63 : m + 1 = 64
      · have hne : ((m : Int) == (64 - 1)) = true := by rw [beq_iff_eq]; omega
        have HP := hide (step_full c HL.out (by rw [Hmm.out]; exact h63))
        rw [Hmm.out] at HP
        have hM := mix_any (sta lk) (left.set m c) (lk.length + 1) p F _ HSet.out (by rw [List.length_set]; exact HL.out.1) HT.out
        clear h63
        go_wp2_with fail
        refine (show Calls _ _ _ _ _ from hM).mono ?_
        clear hM
        rintro e w2 ⟨⟨u, rfl⟩, hw2, hs2⟩
        have HW2 := hide hw2
        have HS2 := hide (((HSt.out.setCell _ _).setCell _ _).trans hs2)
        clear hw2 hs2
        go_wp2_with fail
        refine ⟨⟨k + 1, by omega, by simp, ?_, HS2.out⟩, by simp [intOf]; omega⟩
        rw [HN.out]
        refine Sha.shut HP.out.1 ?_
        rw [HP.out.2, HLk1.out]
        exact HW2.out
      · have hne : ((m : Int) == (64 - 1)) = false := by rw [beq_eq_false_iff_ne]; omega
        have HP := hide (step_part c HL.out (by rw [Hmm.out]; omega))
        rw [Hmm.out] at HP
        clear h63
        go_wp2_with fail
        refine ⟨⟨k + 1, by omega, by simp, ?_, (HSt.out.setCell _ _).setCell _ _⟩, by simp [intOf]; omega⟩
        rw [HN.out]
        refine Sha.shut HP.out.1 ?_
        rw [HP.out.2, HLk1.out]
        exact HSet.out
    · obtain rfl : k = b.length := by omega
      rw [List.take_length] at hw
      have HW := hide hw
      have HSt := hide hstr
      clear hw hstr Hh
      go_wp2_with fail
      go_end0
      exact ⟨⟨_, rfl⟩, HW.out, HSt.out⟩

theorem write_nil (v : Value) (w : World) : Calls Tryd.prog 100 #[.pointer Option.none, v] w fun e w' => (∃ u, e = .returned u) ∧ w = w' := by
  go_enter Tryd.func100, Tryd.ntmps100
  go_wp2_with fail
  exact bodyPost_ret (v := .tuple #[]) (by simp [results, Tryd.results100, go_sem]) rfl ⟨⟨_, rfl⟩, rfl⟩
end Sha32
end Go.Proofs.YtgkofpfjbjnhfaaDoor
