/- LAID TOGETHER: Fe17, Fe18. -/
import Derived.Test.YtbplbdnofobbiaaDoorFeRulesMath
import Derived.Test.YtbplbdnofobbiaaDoorEqArr
set_option linter.unusedVariables false
set_option linter.unusedSimpArgs false
set_option maxRecDepth 100000
set_option maxHeartbeats 8000000
namespace Go.Proofs.YtbplbdnofobbiaaDoor
namespace Fe
open Go.ChangeShapes Go.WideShapes Go.ChangeAt Go.RowKit
def HF : Nat := 28948022309329048855892746252171976963317496166410141009864396001978282409974
def QF : Nat := 14474011154664524427946373126085988481658748083205070504932198000989141204987
theorem HF_lt : HF < 2 ^ 256 := by decide +kernel
theorem sq_two (r x : Nat) (hr : r < P5) (hx : x < P5) (h : r * r % P5 = x * x % P5) : r = x ∨ r = (P5 - x) % P5 := by
 have key : ∀ u v : Nat, u < P5 → v < P5 → v ≤ u → u * u % P5 = v * v % P5 → u = v ∨ u + v = 0 ∨ u + v = P5 := by
  intro u v hu hv hle h
  have h1 := Nat.sub_mod_eq_zero_of_mod_eq h
  rw [Nat.mul_self_sub_mul_self_eq] at h1
  have h2 := Nat.dvd_of_mod_eq_zero h1
  by_cases hd : P5 ∣ u + v
  ·obtain ⟨c, hc⟩ := hd
   have hc2 : c < 2 := by
    rcases Nat.lt_or_ge c 2 with h3 | h3
    ·exact h3
    ·have := Nat.mul_le_mul_left P5 h3
     omega
   rcases (show c = 0 ∨ c = 1 by omega) with rfl | rfl
   ·exact .inr (.inl (by rw [hc, Nat.mul_zero]))
   ·exact .inr (.inr (by rw [hc, Nat.mul_one]))
  ·have h3 := (prime5.cop hd).dvd_of_dvd_mul_left h2
   refine .inl ?_
   rcases Nat.eq_zero_or_pos (u - v) with h4 | h4
   ·omega
   ·have := Nat.le_of_dvd h4 h3; omega
 have hfin : r = x ∨ r + x = 0 ∨ r + x = P5 := by
  rcases Nat.le_total x r with hle | hle
  ·exact key r x hr hx hle h
  ·rcases key x r hx hr hle h.symm with h1 | h1 | h1
   ·exact .inl h1.symm
   ·exact .inr (.inl (by omega))
   ·exact .inr (.inr (by omega))
 rcases hfin with h1 | h1 | h1
 ·exact .inl h1
 ·exact .inl (by omega)
 ·rcases Nat.eq_zero_or_pos x with h2 | h2
  ·omega
  ·exact .inr (by rw [Nat.mod_eq_of_lt (by omega)]; omega)
theorem pow_full (x : Nat) (h0 : x ≠ 0) (hx : x < P5) : x ^ (P5 - 1) % P5 = 1 := prime5.fermat x (fun hd => by have := Nat.le_of_dvd (by omega) hd; omega)
theorem sq_pow (r a : Nat) (h : r * r % P5 = a) (h0 : a ≠ 0) (hr : r < P5) : a ^ HF % P5 = 1 := by
 have hr0 : r ≠ 0 := fun e => h0 (by rw [← h, e]; decide)
 rw [← h, ← Nat.pow_mod, ← Nat.pow_two, ← Nat.pow_mul, show 2 * HF = P5 - 1 by decide +kernel]
 exact pow_full r hr0 hr
theorem root2_of (a : Nat) (ha : a < P5) (h : a ^ HF % P5 = 1) : root2 a * root2 a % P5 = a := by
 by_cases h1 : root1 a * root1 a % P5 = a
 ·unfold root2; rw [if_pos h1]; exact h1
 ·have hr1 : root1 a = a ^ E8 % P5 := pwr_all a E8 (by decide +kernel)
  have hsq : root1 a * root1 a % P5 = a * (a ^ QF % P5) % P5 := by
   rw [hr1, ← Nat.mul_mod, ← Nat.pow_add, Nat.mul_mod_mod, Nat.mul_comm a, ← Nat.pow_succ, show E8 + E8 = QF.succ by decide +kernel]
  have ht : (a ^ QF % P5) * (a ^ QF % P5) % P5 = 1 * 1 % P5 := by
   rw [← Nat.mul_mod, ← Nat.pow_add, show QF + QF = HF by decide +kernel, h]; decide
  rcases sq_two _ 1 (Nat.mod_lt _ P5_pos) (by decide) ht with h2 | h2
  ·rw [h2, Nat.mul_one, Nat.mod_eq_of_lt ha] at hsq
   exact absurd hsq h1
  ·rw [h2] at hsq
   unfold root2
   rw [if_neg h1]
   have hs : SqM * SqM % P5 = (P5 - 1) % P5 := by decide +kernel
   have hm : (P5 - 1) % P5 * ((P5 - 1) % P5) % P5 = 1 := by decide +kernel
   generalize root1 a = r at *
   generalize SqM = s at *
   generalize (P5 - 1) % P5 = m at *
   rw [← Nat.mul_mod, show r * s * (r * s) = (r * r) * (s * s) by ac_rfl, Nat.mul_mod, hsq, hs, Nat.mod_mul_mod, Nat.mul_assoc, Nat.mul_mod, hm, Nat.mul_one, Nat.mod_mod, Nat.mod_eq_of_lt ha]
theorem root2_lt (a : Nat) : root2 a < P5 := by
 unfold root2
 split
 ·exact pwr_lt _ _ _
 ·exact Nat.mod_lt _ P5_pos
theorem root2_zero : root2 0 * root2 0 % P5 = 0 := by
 have h : root1 0 = 0 := by
  have := pwr_all 0 E8 (by decide +kernel)
  rw [show root1 0 = pwr 0 E8 256 from rfl, this, Nat.zero_pow (by decide)]; decide
 unfold root2
 rw [h, if_pos (by decide)]; decide
def evenR (r : Nat) : Nat := if r % 2 = 1 then (P5 - r) % P5 else r
theorem evenR_ok (r : Nat) (hr : r < P5) : evenR r < P5 ∧ evenR r % 2 = 0 ∧ evenR r * evenR r % P5 = r * r % P5 := by
 unfold evenR
 split
 ·rename_i h
  have hp : P5 % 2 = 1 := by decide
  have e : (P5 - r) % P5 = P5 - r := Nat.mod_eq_of_lt (by omega)
  refine ⟨Nat.mod_lt _ P5_pos, by rw [e]; omega, ?_⟩
  have h1 := neg_mul P5 r ((P5 - r) % P5) P5_pos (by omega)
  have h2 := neg_mul P5 r r P5_pos (by omega)
  rw [h1, Nat.mul_comm r, h2]
  generalize r * r = t
  have ht := Nat.mod_lt t P5_pos
  have hP := P5_pos
  generalize t % P5 = v at *
  rcases Nat.eq_zero_or_pos v with rfl | hv
  ·decide +kernel
  ·have e1 : (P5 - v) % P5 = P5 - v := Nat.mod_eq_of_lt (by omega)
   rw [e1, show P5 - (P5 - v) = v by omega, Nat.mod_eq_of_lt ht]
 ·exact ⟨hr, by omega, rfl⟩
theorem rootV_if (a : Nat) : rootV a = if root2 a * root2 a % P5 = a then .tuple #[.agg (q4 (evenR (root2 a))), .bool true] else .tuple #[.agg (q4 0), .bool false] := by
 unfold rootV evenR
 split
 ·split <;> rfl
 ·rfl
theorem eq_n17 (X : World) (d a b : Nat) (ha : a < 2 ^ 255) (hb : b < 2 ^ 255) : (Op.equalIn (d + 2) 29 (.agg (n17 a)) (.agg (n17 b))).run Tryd.prog X = .ok (decide (a = b)) X := by
 have h := run_eq_ints (P := Tryd.prog) X d 29 3 17 .i64 Tryd.underlying29 Tryd.underlying3 (by kernel_rfl) ((ds 17 a).map fun x : Nat => (x : Int)) ((ds 17 b).map fun x : Nat => (x : Int)) (by simp [ds_len]) (by simp [ds_len])
 rw [List.map_map, List.map_map] at h
 refine Eq.trans h (congrArg (fun b => Result.ok b X) (decide_eq_decide.2 ⟨fun h => ?_, fun h => by rw [h]⟩))
 refine ds_inj a b ha hb (List.ext_getElem? fun j => ?_)
 have h2 := congrArg (fun l => l[j]?) h
 simp only [List.getElem?_map] at h2
 cases h3 : (ds 17 a)[j]? with
 | none => rw [h3] at h2; cases h4 : (ds 17 b)[j]? with
  | none => rfl
  | some y => rw [h4] at h2; simp at h2
 | some x => rw [h3] at h2; cases h4 : (ds 17 b)[j]? with
  | none => rw [h4] at h2; simp at h2
  | some y => rw [h4] at h2; simp at h2; rw [Int.ofNat_inj.1 h2]
end Fe
end Go.Proofs.YtbplbdnofobbiaaDoor
