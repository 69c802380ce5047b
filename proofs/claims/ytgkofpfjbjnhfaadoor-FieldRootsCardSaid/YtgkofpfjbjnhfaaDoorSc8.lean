/- scalar: the product of two words, and two more; a number's bit. -/
import Derived.Test.YtgkofpfjbjnhfaaDoorSc7
import Derived.Test.YtgkofpfjbjnhfaaDoorScM
import Derived.Test.YtgkofpfjbjnhfaaDoorMulti
import Derived.Lib.Mul64
import Derived.Laws.Bits64b
namespace Go.Proofs.YtgkofpfjbjnhfaaDoor
open Go.ChangeShapes Go.WideShapes Go.ChangeAt Go.RowKit
set_option linter.unusedVariables false
set_option linter.unusedSimpArgs false

theorem maskM (a : Nat) (ha : a < 18446744073709551616) : bits .and .u64 (a : Int) 4294967295 = ((a % 4294967296 : Nat) : Int) := by
  have h := bits_and_u64_nat a 4294967295 ha (by omega)
  have e : a &&& 4294967295 = a % 4294967296 := Nat.and_two_pow_sub_one_eq_mod a 32
  rw [e] at h
  exact h
theorem divM (a : Nat) : (a : Int) / 4294967296 = ((a / 4294967296 : Nat) : Int) := by omega
theorem mulM (a b : Nat) : (a : Int) * (b : Int) = ((a * b : Nat) : Int) := (Int.natCast_mul a b).symm
theorem addM (a b : Nat) : (a : Int) + (b : Int) = ((a + b : Nat) : Int) := (Int.natCast_add a b).symm
theorem wrapS (a : Nat) (ha : a < 18446744073709551616) : IntKind.u64.wrap (a : Int) = (a : Int) := by rw [IntKind.wrap_u64]; omega
theorem wrapA (a : Nat) : IntKind.u64.wrap (a : Int) = ((a % 18446744073709551616 : Nat) : Int) := by rw [IntKind.wrap_u64]; omega

set_option maxHeartbeats 1000000 in
theorem mul64_any (x y : Nat) (hx : x < 18446744073709551616) (hy : y < 18446744073709551616) (w : World) :
    Calls Tryd.prog 86 #[lv x, lv y] w fun e w' => e = .returned (.tuple #[lv (x * y / 18446744073709551616), lv (x * y % 18446744073709551616)]) ∧ w' = w := by
  obtain ⟨bd, bt, bw, hhi⟩ := Lib.mul64_hi x y hx hy
  have ba := Lib.half_mul_le (a := x / 4294967296) (b := y / 4294967296) (by omega) (by omega)
  have bb := Lib.half_mul_le (a := x / 4294967296) (b := y % 4294967296) (by omega) (by omega)
  have bc := Lib.half_mul_le (a := x % 4294967296) (b := y / 4294967296) (by omega) (by omega)
  have ba' : x / 4294967296 * (y / 4294967296) < 18446744073709551616 := by omega
  have bb' : x / 4294967296 * (y % 4294967296) < 18446744073709551616 := by omega
  have bc' : x % 4294967296 * (y / 4294967296) < 18446744073709551616 := by omega
  have bh1 : x / 4294967296 * (y / 4294967296) + (x / 4294967296 * (y % 4294967296) + x % 4294967296 * (y % 4294967296) / 4294967296) / 4294967296 < 18446744073709551616 := by omega
  have bh : x / 4294967296 * (y / 4294967296) + (x / 4294967296 * (y % 4294967296) + x % 4294967296 * (y % 4294967296) / 4294967296) / 4294967296 + ((x / 4294967296 * (y % 4294967296) + x % 4294967296 * (y % 4294967296) / 4294967296) % 4294967296 + x % 4294967296 * (y / 4294967296)) / 4294967296 < 18446744073709551616 := by omega
  have Hhi := hide hhi
  clear hhi
  go_enter Tryd.func86, Tryd.ntmps86
  go_wp2
  simp only [maskM x hx, maskM y hy, divM, mulM, addM, wrapS _ bd, wrapS _ bb', wrapS _ bt, maskM _ bt, wrapS _ bc', wrapS _ bw, wrapS _ ba', wrapS _ bh1, wrapS _ bh, wrapA (x * y)]
  rw [Hhi.out]
  go_ret2
  exact ⟨rfl, rfl⟩

theorem add64_run0 (x y : Nat) (w : World) :
    (callFunc 66 #[lv x, lv y, .int .u64 0]).run Tryd.prog w =
      .ok (.value (.tuple #[lv ((x + y) % 18446744073709551616), lv ((x + y) / 18446744073709551616)])) w :=
  add64_run x y 0 (by omega) w

theorem grown_num (x y c d : Nat) (hx : x < 18446744073709551616) (hy : y < 18446744073709551616) (hc : c < 18446744073709551616) (hd : d < 18446744073709551616) :
    let l1 := x * y % 18446744073709551616 + c
    let l2 := l1 % 18446744073709551616 + d
    (x * y / 18446744073709551616 + l1 / 18446744073709551616 < 18446744073709551616) ∧ (x * y / 18446744073709551616 + l1 / 18446744073709551616 + l2 / 18446744073709551616 < 18446744073709551616) ∧ l2 % 18446744073709551616 = (x * y + c + d) % 18446744073709551616 ∧
    x * y / 18446744073709551616 + l1 / 18446744073709551616 + l2 / 18446744073709551616 = (x * y + c + d) / 18446744073709551616 := by
  have h : x * y ≤ 18446744073709551615 * 18446744073709551615 := Nat.mul_le_mul (by omega) (by omega)
  simp only [Nat.reduceMul] at h
  generalize x * y = m at *
  refine ⟨by omega, by omega, by omega, by omega⟩
set_option maxRecDepth 100000 in
set_option maxHeartbeats 1000000 in
theorem grown_any (x y c d : Nat) (hx : x < 18446744073709551616) (hy : y < 18446744073709551616) (hc : c < 18446744073709551616) (hd : d < 18446744073709551616) (w : World) :
    Calls Tryd.prog 70 #[lv x, lv y, lv c, lv d] w fun e w' => e = .returned (.tuple #[lv ((x * y + c + d) / 18446744073709551616), lv ((x * y + c + d) % 18446744073709551616)]) ∧ w' = w := by
  obtain ⟨b1, b2, b3, b4⟩ := grown_num x y c d hx hy hc hd
  have c1 := mul64_any x y hx hy
  have HB3 := hide b3
  have HB4 := hide b4
  clear b3 b4
  have hh : x * y / 18446744073709551616 < 18446744073709551616 := by omega
  generalize (x * y + c + d) / 18446744073709551616 = rh at *
  generalize (x * y + c + d) % 18446744073709551616 = rl at *
  generalize x * y / 18446744073709551616 = hi at *
  have hl : x * y % 18446744073709551616 < 18446744073709551616 := Nat.mod_lt _ (by decide)
  generalize x * y % 18446744073709551616 = lo at *
  have h1 := fun X => add64_run0 lo c X
  generalize (lo + c) % 18446744073709551616 = l1 at *
  generalize (lo + c) / 18446744073709551616 = k1 at *
  have h2 := fun X => add64_run0 l1 d X
  generalize (l1 + d) % 18446744073709551616 = l2 at *
  generalize (l1 + d) / 18446744073709551616 = k2 at *
  have H1 := hide h1
  have H2 := hide h2
  have W1 := hide (wrapS _ b1)
  have W2 := hide (wrapS _ b2)
  clear h1 h2
  go_enter Tryd.func70, Tryd.ntmps70
  go_wp2_with fail
  refine (c1 _).mono ?_
  rintro e w' ⟨rfl, rfl⟩
  go_wp2_with fail
  rw [H1.out]
  simp only [Oper.upon]
  go_wp2_with fail
  rw [H2.out]
  simp only [Oper.upon]
  go_wp2_with fail
  have q1 : (hi : Int) + (k1 : Int) + (k2 : Int) = ((rh : Nat) : Int) := by rw [← HB4.out]; simp
  rw [q1, HB3.out]
  go_ret2
  exact ⟨rfl, rfl⟩

theorem testBit_limb (a i : Nat) : (limb a (i / 64)).testBit (i % 64) = a.testBit i := by
  unfold limb
  rw [show (18446744073709551616 : Nat) = 2 ^ 64 from rfl, ← Nat.pow_mul, Nat.testBit_mod_two_pow, Nat.testBit_div_two_pow]
  have : i % 64 < 64 := Nat.mod_lt _ (by decide)
  simp only [this, decide_true, Bool.true_and]
  congr 1; omega
theorem bit_and (x k : Nat) (hx : x < 18446744073709551616) : bits .and .u64 ((x / 2 ^ k : Nat) : Int) 1 = ((if x.testBit k = true then 1 else 0 : Nat) : Int) := by
  have h := bits_and_u64_nat (x / 2 ^ k) 1 (Nat.lt_of_le_of_lt (Nat.div_le_self _ _) hx) (by omega)
  rw [show ((1 : Nat) : Int) = 1 from rfl] at h
  rw [h, Nat.and_one_is_mod, Nat.testBit_eq_decide_div_mod_eq]
  congr 1
  have : x / 2 ^ k % 2 < 2 := Nat.mod_lt _ (by decide)
  simp only [decide_eq_true_eq]
  split <;> omega

def bitOf (a : Nat) (i : Int) : Bool := decide (0 ≤ i ∧ i < 256) && a.testBit i.toNat
theorem bitOf_in (a k : Nat) (h : k < 256) : bitOf a (k : Int) = a.testBit k := by
  have : (0 ≤ (k : Int) ∧ (k : Int) < 256) := by omega
  simp only [bitOf, this, and_self, decide_true, Bool.true_and, Int.toNat_natCast]
theorem bitOf_out (a : Nat) (i : Int) (h : ¬ (0 ≤ i ∧ i < 256)) : bitOf a i = false := by
  simp only [bitOf, h, decide_false, Bool.false_and]
set_option maxRecDepth 100000 in
set_option maxHeartbeats 1000000 in
theorem bit_any (a : Nat) (i : Int) (h1 : -9223372036854775808 ≤ i) (h2 : i ≤ 9223372036854775807) (w : World) :
    Calls Tryd.prog 44 #[.agg (q4 a), .int .i64 i] w fun e w' => e = .returned (.bool (bitOf a i)) ∧ Below w.heap.size w w' := by
  have hu := Tryd.underlying58
  have hB := (Below.refl w.heap.size w).alloc (Nat.le_refl _) (.cells (q4 a) 58)
  have hg := heap_alloc_new w (.cells (q4 a) 58)
  by_cases hr : 0 ≤ i ∧ i < 256
  · obtain ⟨k, rfl⟩ : ∃ k : Nat, i = (k : Int) := ⟨i.toNat, by omega⟩
    have hk : k < 256 := by omega
    have hc : (w.alloc (.cells (q4 a) 58)).cell? ⟨w.heap.size, k / 64, Option.none⟩ = some (lv (limb a (k / 64))) := (cell_of_row _ w.heap.size (k / 64) _ _ _ hg).trans (lvs_get _ _ _ (qs_get 4 a _ (by omega)))
    have hT := testBit_limb a k
    have hb := bit_and (limb a (k / 64)) (k % 64) (limb_lt _ _)
    rw [hT] at hb
    have e3 : ((limb a (k / 64) : Nat) : Int) / 2 ^ (k % 64) = ((limb a (k / 64) / 2 ^ (k % 64) : Nat) : Int) := by rw [Int.natCast_ediv, Int.natCast_pow]; rfl
    rw [← e3] at hb
    have ht : (((if a.testBit k = true then 1 else 0 : Nat) : Int) == 1) = a.testBit k := by cases a.testBit k <;> rfl
    rw [← hb] at ht
    have Ht := hide ht
    clear ht e3
    have HT := hide (bitOf_in a k hk)
    clear hb hT
    go_enter Tryd.func44, Tryd.ntmps44
    go_wp2
    rw [Ht.out]
    go_ret
    exact ⟨by rw [HT.out]; rfl, hB⟩
  · have Hq := hide (bitOf_out a i hr)
    by_cases hn : 0 ≤ i
    · have hi3 : ¬ i < 256 := fun h => hr ⟨hn, h⟩
      clear hr
      go_enter Tryd.func44, Tryd.ntmps44
      go_wp2
      go_ret
      exact ⟨by rw [Hq.out]; rfl, hB⟩
    · clear hr
      go_enter Tryd.func44, Tryd.ntmps44
      go_wp2
      go_ret
      exact ⟨by rw [Hq.out]; rfl, hB⟩
end Go.Proofs.YtgkofpfjbjnhfaaDoor
