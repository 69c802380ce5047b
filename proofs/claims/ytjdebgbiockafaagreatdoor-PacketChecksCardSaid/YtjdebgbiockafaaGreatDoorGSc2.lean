/- A part. -/
import Derived.Test.YtjdebgbiockafaaGreatDoorGSc1
import Derived.Laws.CopyOwn
import Derived.Lib.Mul64
import Derived.Laws.Bits64b
set_option linter.unusedVariables false
set_option linter.unusedSimpArgs false
set_option maxRecDepth 100000
set_option maxHeartbeats 8000000
namespace Go.Proofs.YtjdebgbiockafaaGreatDoor
open Go.ChangeShapes Go.WideShapes Go.ChangeAt Go.RowKit
def wb (x : Nat) : List UInt8 := (List.range 8).map fun i => UInt8.ofNat (x / 2 ^ (8 * i))
def wbs (ws : List Nat) : List UInt8 := ws.flatMap wb
theorem wb_len (x : Nat) : (wb x).length = 8 := by simp [wb]
theorem wbs_len (ws : List Nat) : (wbs ws).length = 8 * ws.length := by
 induction ws with
 | nil => rfl
 | cons x l ih => rw [show wbs (x :: l) = wb x ++ wbs l from rfl, List.length_append, ih, wb_len, List.length_cons]; omega
theorem wb_byte (x j : Nat) : IntKind.u8.wrap ((x : Int) / 2 ^ (8 * j)) = ((UInt8.ofNat (x / 2 ^ (8 * j))).toNat : Int) := by
 rw [show (x : Int) / 2 ^ (8 * j) = ((x / 2 ^ (8 * j) : Nat) : Int) by rw [Int.natCast_ediv, Int.natCast_pow]; rfl, IntKind.wrap_u8, UInt8.toNat_ofNat']
 rfl
end Go.Proofs.YtjdebgbiockafaaGreatDoor
namespace Go.Proofs.YtjdebgbiockafaaGreatDoor
theorem limb_low (n m k i : Nat) (h : n % 18446744073709551616 ^ k = m % 18446744073709551616 ^ k) (hi : i < k) : limb n i = limb m i := by
 unfold limb
 have e : ∀ n : Nat, n / 18446744073709551616 ^ i % 18446744073709551616 = n % 18446744073709551616 ^ k / 18446744073709551616 ^ i % 18446744073709551616 := by
  intro n
  obtain ⟨d, rfl⟩ : ∃ d, k = i + (d + 1) := ⟨k - i - 1, by omega⟩
  rw [Nat.pow_add, Nat.mod_mul_right_div_self, Nat.pow_succ, Nat.mul_comm (18446744073709551616 ^ d), Nat.mod_mul_right_mod]
 rw [e n, e m, h]
theorem qs_take_low (c n m k : Nat) (h : n % 18446744073709551616 ^ k = m % 18446744073709551616 ^ k) : (qs c n).take k = (qs c m).take k := by
 unfold qs
 rw [← List.map_take, ← List.map_take]
 apply List.map_congr_left
 intro i hi
 rw [List.take_range] at hi
 exact limb_low n m k i h (by have := List.mem_range.1 hi; omega)
theorem mod_limb (n k : Nat) : n % 18446744073709551616 ^ (k + 1) = n % 18446744073709551616 ^ k + 18446744073709551616 ^ k * limb n k := by
 rw [Nat.mod_pow_succ]; rfl
def cAdd (a b k : Nat) : Nat := (a % 18446744073709551616 ^ k + b % 18446744073709551616 ^ k) / 18446744073709551616 ^ k
theorem pB (k : Nat) : 0 < 18446744073709551616 ^ k := Nat.pow_pos (by decide)
theorem cAdd_0 (a b : Nat) : cAdd a b 0 = 0 := by simp [cAdd, Nat.mod_one]
theorem cAdd_le (a b k : Nat) : cAdd a b k ≤ 1 := by
 unfold cAdd
 have := Nat.mod_lt a (pB k); have := Nat.mod_lt b (pB k)
 have : (a % 18446744073709551616 ^ k + b % 18446744073709551616 ^ k) / 18446744073709551616 ^ k < 2 := by
  rw [Nat.div_lt_iff_lt_mul (pB k)]; omega
 omega
theorem cAdd_eq (a b k : Nat) : (a + b) / 18446744073709551616 ^ k = a / 18446744073709551616 ^ k + b / 18446744073709551616 ^ k + cAdd a b k := by
 unfold cAdd
 generalize hM : 18446744073709551616 ^ k = M
 have hp : 0 < M := hM ▸ pB k
 conv => lhs; rw [← Nat.div_add_mod a M, ← Nat.div_add_mod b M]
 rw [show M * (a / M) + a % M + (M * (b / M) + b % M) = (a % M + b % M) + M * (a / M + b / M) by rw [Nat.mul_add]; omega]
 rw [Nat.add_mul_div_left _ _ hp]; omega
theorem cAdd_limb (a b k : Nat) : limb (a + b) k = (limb a k + limb b k + cAdd a b k) % 18446744073709551616 := by
 unfold limb; rw [cAdd_eq]; omega
theorem cAdd_step (a b k : Nat) : cAdd a b (k + 1) = (limb a k + limb b k + cAdd a b k) / 18446744073709551616 := by
 have h : cAdd a b (k + 1) = (a % 18446744073709551616 ^ k + b % 18446744073709551616 ^ k + 18446744073709551616 ^ k * (limb a k + limb b k)) / 18446744073709551616 ^ (k + 1) := by
  unfold cAdd; rw [mod_limb, mod_limb, Nat.mul_add]; congr 1; omega
 rw [h, Nat.pow_succ, ← Nat.div_div_eq_div_mul, Nat.add_mul_div_left _ _ (pB k)]
 unfold cAdd; congr 1; omega
def uMul (W x b i j : Nat) : Nat := W % 18446744073709551616 ^ (i + j) + x * (b % 18446744073709551616 ^ j) * 18446744073709551616 ^ i
def oMul (W x b i j : Nat) : Nat := uMul W x b i j / 18446744073709551616 ^ (i + j)
theorem uMul_step (W x b i j : Nat) : uMul W x b i (j + 1) = uMul W x b i j + 18446744073709551616 ^ (i + j) * (limb W (i + j) + x * limb b j) := by
 unfold uMul
 rw [← Nat.add_assoc, mod_limb W, mod_limb b, Nat.pow_add]
 simp only [Nat.mul_add, Nat.add_mul]
 have : x * (18446744073709551616 ^ j * limb b j) * 18446744073709551616 ^ i = 18446744073709551616 ^ i * 18446744073709551616 ^ j * (x * limb b j) := by
  ac_rfl
 omega
theorem uMul_lt (W x b i j : Nat) (hx : x < 18446744073709551616) : uMul W x b i j < 18446744073709551616 ^ (i + j) * 18446744073709551616 := by
 unfold uMul
 have h1 := Nat.mod_lt W (pB (i + j))
 have h2 := Nat.mod_lt b (pB j)
 have h3 : x * (b % 18446744073709551616 ^ j) * 18446744073709551616 ^ i ≤ 18446744073709551615 * 18446744073709551616 ^ j * 18446744073709551616 ^ i :=
  Nat.mul_le_mul_right _ (Nat.mul_le_mul (by omega) (by omega))
 have h4 : 18446744073709551615 * 18446744073709551616 ^ j * 18446744073709551616 ^ i = 18446744073709551615 * 18446744073709551616 ^ (i + j) := by
  rw [Nat.pow_add, Nat.mul_assoc, Nat.mul_comm (18446744073709551616 ^ j)]
 rw [h4] at h3
 omega
theorem oMul_lt (W x b i j : Nat) (hx : x < 18446744073709551616) : oMul W x b i j < 18446744073709551616 := by
 unfold oMul
 rw [Nat.div_lt_iff_lt_mul (pB _), Nat.mul_comm]
 exact uMul_lt W x b i j hx
theorem oMul_t (W x b i j : Nat) : uMul W x b i (j + 1) / 18446744073709551616 ^ (i + j) = oMul W x b i j + (limb W (i + j) + x * limb b j) := by
 rw [uMul_step, Nat.add_mul_div_left _ _ (pB _)]; rfl
theorem oMul_step (W x b i j : Nat) : oMul W x b i (j + 1) = (x * limb b j + limb W (i + j) + oMul W x b i j) / 18446744073709551616 := by
 conv => lhs; unfold oMul
 rw [← Nat.add_assoc, Nat.pow_succ, ← Nat.div_div_eq_div_mul, oMul_t]; congr 1; omega
theorem uMul_limb (W x b i j : Nat) : limb (uMul W x b i (j + 1)) (i + j) = (x * limb b j + limb W (i + j) + oMul W x b i j) % 18446744073709551616 := by
 unfold limb
 rw [oMul_t]; congr 1; unfold limb; omega
theorem uMul_low (W x b i j : Nat) : uMul W x b i (j + 1) % 18446744073709551616 ^ (i + j) = uMul W x b i j % 18446744073709551616 ^ (i + j) := by
 rw [uMul_step, Nat.add_mul_mod_self_left]
theorem uMul_0 (W x b i : Nat) : uMul W x b i 0 = W % 18446744073709551616 ^ i := by simp [uMul, Nat.mod_one]
theorem oMul_0 (W x b i : Nat) : oMul W x b i 0 = 0 := by
 unfold oMul; rw [uMul_0]; exact Nat.div_eq_of_lt (by rw [Nat.add_zero]; exact Nat.mod_lt _ (pB i))
theorem uMul_4 (W x b i : Nat) (hW : W < 18446744073709551616 ^ (i + 4)) (hb : b < 18446744073709551616 ^ 4) : uMul W x b i 4 = W + x * b * 18446744073709551616 ^ i := by
 unfold uMul; rw [Nat.mod_eq_of_lt hW, Nat.mod_eq_of_lt hb]
def pMul (a b i : Nat) : Nat := a % 18446744073709551616 ^ i * b
theorem pMul_0 (a b : Nat) : pMul a b 0 = 0 := by simp [pMul, Nat.mod_one]
theorem pMul_lt (a b i : Nat) (hb : b < 18446744073709551616 ^ 4) : pMul a b i < 18446744073709551616 ^ (i + 4) := by
 unfold pMul
 rw [Nat.pow_add]
 exact Nat.mul_lt_mul'' (Nat.mod_lt _ (pB i)) hb
theorem pMul_step (a b i : Nat) (hb : b < 18446744073709551616 ^ 4) : pMul a b (i + 1) = uMul (pMul a b i) (limb a i) b i 4 := by
 rw [uMul_4 _ _ _ _ (pMul_lt a b i hb) hb]
 unfold pMul
 rw [mod_limb, Nat.add_mul]
 congr 1
 ac_rfl
theorem limb_high (n k : Nat) (h : n < 18446744073709551616 ^ k) : limb n k = 0 := by
 unfold limb; rw [Nat.div_eq_of_lt h]
theorem limb_top (n k : Nat) (h : n < 18446744073709551616 ^ (k + 1)) : limb n k = n / 18446744073709551616 ^ k := by
 unfold limb
 refine Nat.mod_eq_of_lt ?_
 rw [Nat.div_lt_iff_lt_mul (pB k), Nat.mul_comm, ← Nat.pow_succ]
 exact h
theorem qs_drop_high (c n m k : Nat) (hn : n < 18446744073709551616 ^ k) (hm : m < 18446744073709551616 ^ k) : (qs c n).drop k = (qs c m).drop k := by
 apply List.ext_getElem?
 intro j
 rw [List.getElem?_drop, List.getElem?_drop]
 unfold qs
 simp only [List.getElem?_map]
 by_cases hc : k + j < c
 ·rw [List.getElem?_range hc]
  simp only [Option.map_some]
  rw [limb_high n (k + j) (Nat.lt_of_lt_of_le hn (Nat.pow_le_pow_right (by decide) (by omega))), limb_high m (k + j) (Nat.lt_of_lt_of_le hm (Nat.pow_le_pow_right (by decide) (by omega)))]
 have hn : (List.range c)[k + j]? = Option.none := List.getElem?_eq_none (by simp; omega)
 rw [hn]; rfl
def lval : List Nat → Nat
 | [] => 0
 | x :: l => x + 18446744073709551616 * lval l
theorem leN_append (a b : List UInt8) : leN (a ++ b) = leN a + 256 ^ a.length * leN b := by
 induction a with
 | nil => simp [leN]
 | cons x a ih =>
  simp only [List.cons_append, leN, ih, List.length_cons, Nat.pow_succ]
  rw [Nat.mul_add, Nat.mul_assoc, Nat.mul_comm 256 (256 ^ a.length * leN b)]
  have : 256 ^ a.length * (256 * leN b) = 256 ^ a.length * leN b * 256 := by rw [Nat.mul_comm 256, Nat.mul_assoc]
  omega
theorem leN_wb (x : Nat) (h : x < 18446744073709551616) : leN (wb x) = x := by
 unfold wb
 rw [show List.range 8 = [0, 1, 2, 3, 4, 5, 6, 7] from rfl]
 simp only [List.map_cons, List.map_nil, leN, UInt8.toNat_ofNat', Nat.reduceMul, Nat.reducePow]
 omega
theorem leN_wbs (l : List Nat) (h : ∀ x ∈ l, x < 18446744073709551616) : leN (wbs l) = lval l := by
 induction l with
 | nil => rfl
 | cons x l ih =>
  have := ih (fun y hy => h y (List.mem_cons_of_mem _ hy))
  show leN (wb x ++ wbs l) = _
  rw [leN_append, leN_wb x (h x List.mem_cons_self), wb_len, this]
  rfl
theorem qs_succ_gen (B m n : Nat) : (List.range (m + 1)).map (fun i => n / B ^ i % B) = (n / B ^ 0 % B) :: (List.range m).map (fun i => n / B / B ^ i % B) := by
 rw [List.range_succ_eq_map, List.map_cons, List.map_map]
 refine congrArg (List.cons _) (List.map_congr_left fun i _ => ?_)
 show n / B ^ (i + 1) % B = n / B / B ^ i % B
 rw [Nat.div_div_eq_div_mul, Nat.pow_succ, Nat.mul_comm]
theorem qs_succ (m n : Nat) : qs (m + 1) n = limb n 0 :: qs m (n / 18446744073709551616) := qs_succ_gen 18446744073709551616 m n
theorem lval_qs (m n : Nat) : lval (qs m n) = n % 18446744073709551616 ^ m := by
 induction m generalizing n with
 | zero => simp [qs, lval, Nat.mod_one]
 | succ m ih =>
  rw [qs_succ, lval, ih]
  unfold limb
  rw [Nat.pow_zero, Nat.div_one, Nat.pow_succ, Nat.mul_comm (18446744073709551616 ^ m), Nat.mod_mul]
theorem qs_lt (m n : Nat) : ∀ x ∈ qs m n, x < 18446744073709551616 := by
 intro x hx
 simp only [qs, List.mem_map] at hx
 obtain ⟨i, _, rfl⟩ := hx
 exact limb_lt n i
theorem leN_qs (m n : Nat) (h : n < 18446744073709551616 ^ m) : leN (wbs (qs m n)) = n := by
 rw [leN_wbs _ (qs_lt m n), lval_qs, Nat.mod_eq_of_lt h]
theorem leN_lt (l : List UInt8) : leN l < 256 ^ l.length := by
 induction l with
 | nil => simp [leN]
 | cons x l ih =>
  simp only [leN, List.length_cons, Nat.pow_succ]
  have := UInt8.toNat_lt x
  omega
theorem leN_inj : ∀ (a b : List UInt8), a.length = b.length → leN a = leN b → a = b
 | [], [], _, _ => rfl
 | x :: a, y :: b, hl, h => by
  simp only [leN] at h
  have hx := UInt8.toNat_lt x
  have hy := UInt8.toNat_lt y
  have h1 : x.toNat = y.toNat := by omega
  have h2 : leN a = leN b := by omega
  rw [leN_inj a b (by simpa using hl) h2, UInt8.toNat_inj.1 h1]
theorem qs_inj (m a b : Nat) (ha : a < 18446744073709551616 ^ m) (hb : b < 18446744073709551616 ^ m) (h : qs m a = qs m b) : a = b := by
 rw [← Nat.mod_eq_of_lt ha, ← Nat.mod_eq_of_lt hb, ← lval_qs, ← lval_qs, h]
end Go.Proofs.YtjdebgbiockafaaGreatDoor
namespace Go.Proofs.YtjdebgbiockafaaGreatDoor
open Go.ChangeShapes Go.WideShapes Go.ChangeAt Go.RowKit
def zb (l : List UInt8) : Array Value := (vbs l).toArray
theorem vbl (l : List UInt8) : (vbs l).length = l.length := by simp [vbs]
theorem vba (l : List UInt8) : (vbs l).toArray.all (·.oneCell') = true := by
 simp only [List.all_toArray, List.all_eq_true]
 exact vbs_one l
theorem maskM (a : Nat) (ha : a < 18446744073709551616) : bits .and .u64 (a : Int) 4294967295 = ((a % 4294967296 : Nat) : Int) := by
 have h := bits_and_u64_nat a 4294967295 ha (by omega)
 have e : a &&& 4294967295 = a % 4294967296 := Nat.and_two_pow_sub_one_eq_mod a 32
 rw [e] at h
 exact h
theorem divM (a : Nat) : (a : Int) / 4294967296 = ((a / 4294967296 : Nat) : Int) := by omega
theorem mulM (a b : Nat) : (a : Int) * (b : Int) = ((a * b : Nat) : Int) := (Int.natCast_mul a b).symm
theorem addM (a b : Nat) : (a : Int) + (b : Int) = ((a + b : Nat) : Int) := (Int.natCast_add a b).symm
theorem wrapS (a : Nat) (ha : a < 18446744073709551616) : IntKind.u64.wrap (a : Int) = (a : Int) := by rw [IntKind.wrap_u64]; omega
theorem wrapA (a : Nat) : IntKind.u64.wrap (a : Int) = ((a % 18446744073709551616 : Nat) : Int) := by rw [IntKind.wrap_u64]; omega
theorem mul64_any (x y : Nat) (hx : x < 18446744073709551616) (hy : y < 18446744073709551616) (w : World) :
  Calls Tryz.prog 123 #[lv x, lv y] w fun e w' => e = .returned (.tuple #[lv (x * y / 18446744073709551616), lv (x * y % 18446744073709551616)]) ∧ w' = w := by
 obtain ⟨bd, bt, bw, hhi⟩ := Lib.mul64_hi x y hx hy
 have ba := Lib.half_mul_le (a := x / 4294967296) (b := y / 4294967296) (by omega) (by omega)
 have bb := Lib.half_mul_le (a := x / 4294967296) (b := y % 4294967296) (by omega) (by omega)
 have bc := Lib.half_mul_le (a := x % 4294967296) (b := y / 4294967296) (by omega) (by omega)
 have ba' : x / 4294967296 * (y / 4294967296) < 18446744073709551616 := by omega
 have bb' : x / 4294967296 * (y % 4294967296) < 18446744073709551616 := by omega
 have bc' : x % 4294967296 * (y / 4294967296) < 18446744073709551616 := by omega
 have bh1 : x / 4294967296 * (y / 4294967296) + (x / 4294967296 * (y % 4294967296) + x % 4294967296 * (y % 4294967296) / 4294967296) / 4294967296 < 18446744073709551616 := by omega
 have bh : x / 4294967296 * (y / 4294967296) + (x / 4294967296 * (y % 4294967296) + x % 4294967296 * (y % 4294967296) / 4294967296) / 4294967296 + ((x / 4294967296 * (y % 4294967296) + x % 4294967296 * (y % 4294967296) / 4294967296) % 4294967296 + x % 4294967296 * (y / 4294967296)) / 4294967296 < 18446744073709551616 := by omega
 have Hhi := hide hhi
 clear hhi
 go_enter Tryz.func123, Tryz.ntmps123
 go_wp2
 simp only [maskM x hx, maskM y hy, divM, mulM, addM, wrapS _ bd, wrapS _ bb', wrapS _ bt, maskM _ bt, wrapS _ bc', wrapS _ bw, wrapS _ ba', wrapS _ bh1, wrapS _ bh, wrapA (x * y)]
 rw [Hhi.out]
 go_ret2
 exact ⟨rfl, rfl⟩
theorem add64_run0 (x y : Nat) (w : World) :
  (callFunc 120 #[lv x, lv y, .int .u64 0]).run Tryz.prog w =
   .ok (.value (.tuple #[lv ((x + y) % 18446744073709551616), lv ((x + y) / 18446744073709551616)])) w :=
 add64_run x y 0 (by omega) w
theorem grown_num (x y c d : Nat) (hx : x < 18446744073709551616) (hy : y < 18446744073709551616) (hc : c < 18446744073709551616) (hd : d < 18446744073709551616) :
  let l1 := x * y % 18446744073709551616 + c
  let l2 := l1 % 18446744073709551616 + d
  (x * y / 18446744073709551616 + l1 / 18446744073709551616 < 18446744073709551616) ∧ (x * y / 18446744073709551616 + l1 / 18446744073709551616 + l2 / 18446744073709551616 < 18446744073709551616) ∧ l2 % 18446744073709551616 = (x * y + c + d) % 18446744073709551616 ∧
  x * y / 18446744073709551616 + l1 / 18446744073709551616 + l2 / 18446744073709551616 = (x * y + c + d) / 18446744073709551616 := by
 have h : x * y ≤ 18446744073709551615 * 18446744073709551615 := Nat.mul_le_mul (by omega) (by omega)
 simp only [Nat.reduceMul] at h
 generalize x * y = m at *
 refine ⟨by omega, by omega, by omega, by omega⟩
theorem testBit_limb (a i : Nat) : (limb a (i / 64)).testBit (i % 64) = a.testBit i := by
 unfold limb
 rw [show (18446744073709551616 : Nat) = 2 ^ 64 from rfl, ← Nat.pow_mul, Nat.testBit_mod_two_pow, Nat.testBit_div_two_pow]
 have : i % 64 < 64 := Nat.mod_lt _ (by decide)
 simp only [this, decide_true, Bool.true_and]
 congr 1; omega
theorem bit_and (x k : Nat) (hx : x < 18446744073709551616) : bits .and .u64 ((x / 2 ^ k : Nat) : Int) 1 = ((if x.testBit k = true then 1 else 0 : Nat) : Int) := by
 have h := bits_and_u64_nat (x / 2 ^ k) 1 (Nat.lt_of_le_of_lt (Nat.div_le_self _ _) hx) (by omega)
 rw [show ((1 : Nat) : Int) = 1 from rfl] at h
 rw [h, Nat.and_one_is_mod, Nat.testBit_eq_decide_div_mod_eq]
 congr 1
 have : x / 2 ^ k % 2 < 2 := Nat.mod_lt _ (by decide)
 simp only [decide_eq_true_eq]
 split <;> omega
def bitOf (a : Nat) (i : Int) : Bool := decide (0 ≤ i ∧ i < 256) && a.testBit i.toNat
theorem bitOf_in (a k : Nat) (h : k < 256) : bitOf a (k : Int) = a.testBit k := by
 have : (0 ≤ (k : Int) ∧ (k : Int) < 256) := by omega
 simp only [bitOf, this, and_self, decide_true, Bool.true_and, Int.toNat_natCast]
theorem bitOf_out (a : Nat) (i : Int) (h : ¬ (0 ≤ i ∧ i < 256)) : bitOf a i = false := by
 simp only [bitOf, h, decide_false, Bool.false_and]
theorem bit_any (a : Nat) (i : Int) (h1 : -9223372036854775808 ≤ i) (h2 : i ≤ 9223372036854775807) (w : World) :
  Calls Tryz.prog 95 #[.agg (q4 a), .int .i64 i] w fun e w' => e = .returned (.bool (bitOf a i)) ∧ Below w.heap.size w w' := by
 have hu := Tryz.underlying131
 have hB := (Below.refl w.heap.size w).alloc (Nat.le_refl _) (.cells (q4 a) 131)
 have hg := heap_alloc_new w (.cells (q4 a) 131)
 by_cases hr : 0 ≤ i ∧ i < 256
 ·obtain ⟨k, rfl⟩ : ∃ k : Nat, i = (k : Int) := ⟨i.toNat, by omega⟩
  have hk : k < 256 := by omega
  have hc : (w.alloc (.cells (q4 a) 131)).cell? ⟨w.heap.size, k / 64, .none⟩ = some (lv (limb a (k / 64))) := (cell_of_row _ w.heap.size (k / 64) _ _ _ hg).trans (lvs_get _ _ _ (qs_get 4 a _ (by omega)))
  have hT := testBit_limb a k
  have hb := bit_and (limb a (k / 64)) (k % 64) (limb_lt _ _)
  rw [hT] at hb
  have e3 : ((limb a (k / 64) : Nat) : Int) / 2 ^ (k % 64) = ((limb a (k / 64) / 2 ^ (k % 64) : Nat) : Int) := by rw [Int.natCast_ediv, Int.natCast_pow]; rfl
  rw [← e3] at hb
  have ht : (((if a.testBit k = true then 1 else 0 : Nat) : Int) == 1) = a.testBit k := by cases a.testBit k <;> rfl
  rw [← hb] at ht
  have Ht := hide ht
  clear ht e3
  have HT := hide (bitOf_in a k hk)
  clear hb hT
  go_enter Tryz.func95, Tryz.ntmps95
  go_wp2
  rw [Ht.out]
  go_ret
  exact ⟨by rw [HT.out]; rfl, hB⟩
 have Hq := hide (bitOf_out a i hr)
 by_cases hn : 0 ≤ i
 ·have hi3 : ¬ i < 256 := fun h => hr ⟨hn, h⟩
  clear hr
  go_enter Tryz.func95, Tryz.ntmps95
  go_wp2
  go_ret
  exact ⟨by rw [Hq.out]; rfl, hB⟩
 clear hr
 go_enter Tryz.func95, Tryz.ntmps95
 go_wp2
 go_ret
 exact ⟨by rw [Hq.out]; rfl, hB⟩
end Go.Proofs.YtjdebgbiockafaaGreatDoor
