/- scalar: when two numbers are one; a number's words from its bytes. -/
import Derived.Test.YtgkofpfjbjnhfaaDoorSc10
import Derived.Test.YtgkofpfjbjnhfaaDoorEqArr
namespace Go.Proofs.YtgkofpfjbjnhfaaDoor
open Go.ChangeShapes Go.WideShapes Go.ChangeAt Go.RowKit
set_option linter.unusedVariables false
set_option linter.unusedSimpArgs false

theorem lvs_ints (l : List Nat) : lvs l = ((l.map (fun x : Nat => (x : Int))).map (Value.int .u64)).toArray := by
  unfold lvs; rw [List.map_map]; rfl
theorem eq_lvs (w : World) (d : Nat) (t : TypeId) (m : Nat) (ht : Tryd.prog.underlying t = some (.array m 22)) (a b : List Nat) (ha : a.length = m) (hb : b.length = m) :
    (Op.equalIn (d + 2) t (.agg (lvs a)) (.agg (lvs b))).run Tryd.prog w = .ok (decide (a = b)) w := by
  rw [lvs_ints, lvs_ints, run_eq_ints (P := Tryd.prog) w d t 22 m .u64 ht Tryd.underlying22 (by kernel_rfl) _ _ (by simpa using ha) (by simpa using hb)]
  refine congrArg (fun b => Result.ok b w) (decide_eq_decide.2 ?_)
  constructor
  · intro h
    have inj : ∀ x y : Nat, (x : Int) = (y : Int) → x = y := fun x y h => by omega
    exact List.map_inj_right (fun _ _ h => inj _ _ h) |>.1 h
  · intro h; rw [h]
theorem qs_eq (a b : Nat) (ha : a < 18446744073709551616 ^ 4) (hb : b < 18446744073709551616 ^ 4) : (qs 4 a = qs 4 b) = (a = b) := by
  apply propext
  exact ⟨qs_inj 4 a b ha hb, fun h => by rw [h]⟩
theorem eq_q4 (w : World) (d : Nat) (t : TypeId) (ht : Tryd.prog.underlying t = some (.array 4 22)) (a b : Nat) (ha : a < 18446744073709551616 ^ 4) (hb : b < 18446744073709551616 ^ 4) :
    (Op.equalIn (d + 2) t (.agg (q4 a)) (.agg (q4 b))).run Tryd.prog w = .ok (decide (a = b)) w := by
  rw [eq_lvs w d t 4 ht _ _ (qs_len 4 a) (qs_len 4 b)]
  exact congrArg (fun b => Result.ok b w) (decide_eq_decide.2 (by rw [qs_eq a b ha hb]))
/-- one byte more -/
theorem byte_step (n x k : Nat) (hn : n < 256 ^ k) (hx : x < 256) :
    limb (n + 256 ^ k * x) (k / 8) = limb n (k / 8) ||| (x * 2 ^ (8 * (k % 8))) ∧ x * 2 ^ (8 * (k % 8)) < 18446744073709551616 ∧ (∀ i, i ≠ k / 8 → limb (n + 256 ^ k * x) i = limb n i) := by
  have hr : k % 8 < 8 := Nat.mod_lt _ (by decide)
  have hk : 256 ^ k = 18446744073709551616 ^ (k / 8) * 2 ^ (8 * (k % 8)) := by
    rw [show (18446744073709551616 : Nat) = 256 ^ 8 from rfl, show (2 : Nat) ^ (8 * (k % 8)) = 256 ^ (k % 8) by rw [Nat.pow_mul], ← Nat.pow_mul, ← Nat.pow_add, Nat.div_add_mod]
  have hle : x * 2 ^ (8 * (k % 8)) < 18446744073709551616 := by
    have : (2 : Nat) ^ (8 * (k % 8)) ≤ 2 ^ 56 := Nat.pow_le_pow_right (by decide) (by omega)
    exact Nat.lt_of_le_of_lt (Nat.mul_le_mul (show x ≤ 255 by omega) this) (by decide)
  generalize hq : k / 8 = q at *
  have hr8 : 8 * (k % 8) ≤ 56 := by omega
  generalize 8 * (k % 8) = r at *
  rw [hk] at hn ⊢
  have hp : 0 < 18446744073709551616 ^ q := Nat.pow_pos (by decide)
  have ht : n / 18446744073709551616 ^ q < 2 ^ r := by rw [Nat.div_lt_iff_lt_mul hp, Nat.mul_comm]; exact hn
  have e : n + 18446744073709551616 ^ q * 2 ^ r * x = n + 18446744073709551616 ^ q * (x * 2 ^ r) := by rw [Nat.mul_assoc, Nat.mul_comm (2 ^ r)]
  rw [e]
  refine ⟨?_, hle, ?_⟩
  · unfold limb
    rw [Nat.add_mul_div_left _ _ hp]
    have h1 : n / 18446744073709551616 ^ q ||| x * 2 ^ r = n / 18446744073709551616 ^ q + x * 2 ^ r := by
      rw [Nat.or_comm, ← Nat.shiftLeft_eq, ← Nat.shiftLeft_add_eq_or_of_lt ht, Nat.add_comm]
    have hr56 : x * 2 ^ r + n / 18446744073709551616 ^ q < 18446744073709551616 := by
      have h3 : (2 : Nat) ^ r ≤ 2 ^ 56 := Nat.pow_le_pow_right (by decide) (by omega)
      have h4 : (x + 1) * 2 ^ r ≤ 256 * 2 ^ 56 := Nat.mul_le_mul (by omega) h3
      rw [Nat.add_mul, Nat.one_mul] at h4
      have : (256 : Nat) * 2 ^ 56 = 18446744073709551616 := by decide
      omega
    have h5 : n / 18446744073709551616 ^ q < 18446744073709551616 := by omega
    rw [Nat.mod_eq_of_lt h5, h1, Nat.mod_eq_of_lt (by omega)]
  · intro i hi
    rcases Nat.lt_or_gt_of_ne hi with h | h
    · exact limb_low _ _ q i (by rw [Nat.add_mul_mod_self_left]) h
    · have hb : ∀ m, m < 18446744073709551616 ^ (q + 1) → limb m i = 0 := fun m hm => by
        refine limb_high m i (Nat.lt_of_lt_of_le hm (Nat.pow_le_pow_right (by decide) (by omega)))
      have h3 : (2 : Nat) ^ r ≤ 2 ^ 56 := Nat.pow_le_pow_right (by decide) (by omega)
      have h4 : (x + 1) * 2 ^ r ≤ 256 * 2 ^ 56 := Nat.mul_le_mul (by omega) h3
      have h6 : 18446744073709551616 ^ q * ((x + 1) * 2 ^ r) ≤ 18446744073709551616 ^ q * 18446744073709551616 := Nat.mul_le_mul_left _ h4
      rw [Nat.add_mul, Nat.one_mul, Nat.mul_add] at h6
      rw [hb _ (by rw [Nat.pow_succ]; omega), hb _ (by rw [Nat.pow_succ]; omega)]
theorem leN_take (l : List UInt8) (k : Nat) (h : k < l.length) : leN (l.take (k + 1)) = leN (l.take k) + 256 ^ k * l[k].toNat := by
  rw [List.take_succ_eq_append_getElem h, leN_append, List.length_take, Nat.min_eq_left (by omega)]
  simp [leN]
theorem qs_byte (l : List UInt8) (k : Nat) (h : k < l.length) (h4 : k / 8 < 4) : (qs 4 (leN (l.take k))).set (k / 8) (limb (leN (l.take (k + 1))) (k / 8)) = qs 4 (leN (l.take (k + 1))) := by
  have hn := leN_lt (l.take k)
  rw [List.length_take, Nat.min_eq_left (by omega)] at hn
  have hs := (byte_step (leN (l.take k)) l[k].toNat k hn (UInt8.toNat_lt _)).2.2
  rw [← leN_take l k h] at hs
  apply List.ext_getElem?
  intro i
  rw [List.getElem?_set]
  split
  · rename_i e
    subst e
    rw [if_pos (by rw [qs_len]; exact h4), qs_get 4 _ _ h4]
  · rename_i e
    unfold qs
    rw [List.getElem?_map, List.getElem?_map]
    cases hr : (List.range 4)[i]? with
    | none => rfl
    | some j =>
      have : j = i := by
        have := List.getElem?_eq_some_iff.1 hr
        obtain ⟨h1, h2⟩ := this
        rw [List.getElem_range] at h2
        exact h2.symm
      subst this
      simp only [Option.map_some]
      rw [hs j (fun h => e h.symm)]
end Go.Proofs.YtgkofpfjbjnhfaaDoor
