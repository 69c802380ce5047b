/- Numbers of limbs: how sums and products go, limb by limb; limbs as bytes. No Go function is spoken of here. -/
import Derived.Test.YtgkofpfjbjnhfaaDoorSc5
namespace Go.Proofs.YtgkofpfjbjnhfaaDoor
set_option linter.unusedVariables false
set_option linter.unusedSimpArgs false

theorem limb_low (n m k i : Nat) (h : n % 18446744073709551616 ^ k = m % 18446744073709551616 ^ k) (hi : i < k) : limb n i = limb m i := by
  unfold limb
  have e : ∀ n : Nat, n / 18446744073709551616 ^ i % 18446744073709551616 = n % 18446744073709551616 ^ k / 18446744073709551616 ^ i % 18446744073709551616 := by
    intro n
    obtain ⟨d, rfl⟩ : ∃ d, k = i + (d + 1) := ⟨k - i - 1, by omega⟩
    rw [Nat.pow_add, Nat.mod_mul_right_div_self, Nat.pow_succ, Nat.mul_comm (18446744073709551616 ^ d), Nat.mod_mul_right_mod]
  rw [e n, e m, h]
theorem qs_take_low (c n m k : Nat) (h : n % 18446744073709551616 ^ k = m % 18446744073709551616 ^ k) : (qs c n).take k = (qs c m).take k := by
  unfold qs
  rw [← List.map_take, ← List.map_take]
  apply List.map_congr_left
  intro i hi
  rw [List.take_range] at hi
  exact limb_low n m k i h (by have := List.mem_range.1 hi; omega)
theorem mod_limb (n k : Nat) : n % 18446744073709551616 ^ (k + 1) = n % 18446744073709551616 ^ k + 18446744073709551616 ^ k * limb n k := by
  rw [Nat.mod_pow_succ]; rfl
/-- sums -/
def cAdd (a b k : Nat) : Nat := (a % 18446744073709551616 ^ k + b % 18446744073709551616 ^ k) / 18446744073709551616 ^ k
theorem pB (k : Nat) : 0 < 18446744073709551616 ^ k := Nat.pow_pos (by decide)
theorem cAdd_0 (a b : Nat) : cAdd a b 0 = 0 := by simp [cAdd, Nat.mod_one]
theorem cAdd_le (a b k : Nat) : cAdd a b k ≤ 1 := by
  unfold cAdd
  have := Nat.mod_lt a (pB k); have := Nat.mod_lt b (pB k)
  have : (a % 18446744073709551616 ^ k + b % 18446744073709551616 ^ k) / 18446744073709551616 ^ k < 2 := by
    rw [Nat.div_lt_iff_lt_mul (pB k)]; omega
  omega
theorem cAdd_eq (a b k : Nat) : (a + b) / 18446744073709551616 ^ k = a / 18446744073709551616 ^ k + b / 18446744073709551616 ^ k + cAdd a b k := by
  unfold cAdd
  generalize hM : 18446744073709551616 ^ k = M
  have hp : 0 < M := hM ▸ pB k
  conv => lhs; rw [← Nat.div_add_mod a M, ← Nat.div_add_mod b M]
  rw [show M * (a / M) + a % M + (M * (b / M) + b % M) = (a % M + b % M) + M * (a / M + b / M) by rw [Nat.mul_add]; omega]
  rw [Nat.add_mul_div_left _ _ hp]; omega
theorem cAdd_limb (a b k : Nat) : limb (a + b) k = (limb a k + limb b k + cAdd a b k) % 18446744073709551616 := by
  unfold limb; rw [cAdd_eq]; omega
theorem cAdd_step (a b k : Nat) : cAdd a b (k + 1) = (limb a k + limb b k + cAdd a b k) / 18446744073709551616 := by
  have h : cAdd a b (k + 1) = (a % 18446744073709551616 ^ k + b % 18446744073709551616 ^ k + 18446744073709551616 ^ k * (limb a k + limb b k)) / 18446744073709551616 ^ (k + 1) := by
    unfold cAdd; rw [mod_limb, mod_limb, Nat.mul_add]; congr 1; omega
  rw [h, Nat.pow_succ, ← Nat.div_div_eq_div_mul, Nat.add_mul_div_left _ _ (pB k)]
  unfold cAdd; congr 1; omega
/-- products -/
def uMul (W x b i j : Nat) : Nat := W % 18446744073709551616 ^ (i + j) + x * (b % 18446744073709551616 ^ j) * 18446744073709551616 ^ i
def oMul (W x b i j : Nat) : Nat := uMul W x b i j / 18446744073709551616 ^ (i + j)
theorem uMul_step (W x b i j : Nat) : uMul W x b i (j + 1) = uMul W x b i j + 18446744073709551616 ^ (i + j) * (limb W (i + j) + x * limb b j) := by
  unfold uMul
  rw [← Nat.add_assoc, mod_limb W, mod_limb b, Nat.pow_add]
  simp only [Nat.mul_add, Nat.add_mul]
  have : x * (18446744073709551616 ^ j * limb b j) * 18446744073709551616 ^ i = 18446744073709551616 ^ i * 18446744073709551616 ^ j * (x * limb b j) := by
    ac_rfl
  omega
theorem uMul_lt (W x b i j : Nat) (hx : x < 18446744073709551616) : uMul W x b i j < 18446744073709551616 ^ (i + j) * 18446744073709551616 := by
  unfold uMul
  have h1 := Nat.mod_lt W (pB (i + j))
  have h2 := Nat.mod_lt b (pB j)
  have h3 : x * (b % 18446744073709551616 ^ j) * 18446744073709551616 ^ i ≤ 18446744073709551615 * 18446744073709551616 ^ j * 18446744073709551616 ^ i :=
    Nat.mul_le_mul_right _ (Nat.mul_le_mul (by omega) (by omega))
  have h4 : 18446744073709551615 * 18446744073709551616 ^ j * 18446744073709551616 ^ i = 18446744073709551615 * 18446744073709551616 ^ (i + j) := by
    rw [Nat.pow_add, Nat.mul_assoc, Nat.mul_comm (18446744073709551616 ^ j)]
  rw [h4] at h3
  omega
theorem oMul_lt (W x b i j : Nat) (hx : x < 18446744073709551616) : oMul W x b i j < 18446744073709551616 := by
  unfold oMul
  rw [Nat.div_lt_iff_lt_mul (pB _), Nat.mul_comm]
  exact uMul_lt W x b i j hx
theorem oMul_t (W x b i j : Nat) : uMul W x b i (j + 1) / 18446744073709551616 ^ (i + j) = oMul W x b i j + (limb W (i + j) + x * limb b j) := by
  rw [uMul_step, Nat.add_mul_div_left _ _ (pB _)]; rfl
theorem oMul_step (W x b i j : Nat) : oMul W x b i (j + 1) = (x * limb b j + limb W (i + j) + oMul W x b i j) / 18446744073709551616 := by
  conv => lhs; unfold oMul
  rw [← Nat.add_assoc, Nat.pow_succ, ← Nat.div_div_eq_div_mul, oMul_t]; congr 1; omega
theorem uMul_limb (W x b i j : Nat) : limb (uMul W x b i (j + 1)) (i + j) = (x * limb b j + limb W (i + j) + oMul W x b i j) % 18446744073709551616 := by
  unfold limb
  rw [oMul_t]; congr 1; unfold limb; omega
theorem uMul_low (W x b i j : Nat) : uMul W x b i (j + 1) % 18446744073709551616 ^ (i + j) = uMul W x b i j % 18446744073709551616 ^ (i + j) := by
  rw [uMul_step, Nat.add_mul_mod_self_left]
theorem uMul_0 (W x b i : Nat) : uMul W x b i 0 = W % 18446744073709551616 ^ i := by simp [uMul, Nat.mod_one]
theorem oMul_0 (W x b i : Nat) : oMul W x b i 0 = 0 := by
  unfold oMul; rw [uMul_0]; exact Nat.div_eq_of_lt (by rw [Nat.add_zero]; exact Nat.mod_lt _ (pB i))
theorem uMul_4 (W x b i : Nat) (hW : W < 18446744073709551616 ^ (i + 4)) (hb : b < 18446744073709551616 ^ 4) : uMul W x b i 4 = W + x * b * 18446744073709551616 ^ i := by
  unfold uMul; rw [Nat.mod_eq_of_lt hW, Nat.mod_eq_of_lt hb]
/-- the product so far -/
def pMul (a b i : Nat) : Nat := a % 18446744073709551616 ^ i * b
theorem pMul_0 (a b : Nat) : pMul a b 0 = 0 := by simp [pMul, Nat.mod_one]
theorem pMul_lt (a b i : Nat) (hb : b < 18446744073709551616 ^ 4) : pMul a b i < 18446744073709551616 ^ (i + 4) := by
  unfold pMul
  rw [Nat.pow_add]
  exact Nat.mul_lt_mul'' (Nat.mod_lt _ (pB i)) hb
theorem pMul_step (a b i : Nat) (hb : b < 18446744073709551616 ^ 4) : pMul a b (i + 1) = uMul (pMul a b i) (limb a i) b i 4 := by
  rw [uMul_4 _ _ _ _ (pMul_lt a b i hb) hb]
  unfold pMul
  rw [mod_limb, Nat.add_mul]
  congr 1
  ac_rfl
theorem limb_high (n k : Nat) (h : n < 18446744073709551616 ^ k) : limb n k = 0 := by
  unfold limb; rw [Nat.div_eq_of_lt h]
theorem limb_top (n k : Nat) (h : n < 18446744073709551616 ^ (k + 1)) : limb n k = n / 18446744073709551616 ^ k := by
  unfold limb
  refine Nat.mod_eq_of_lt ?_
  rw [Nat.div_lt_iff_lt_mul (pB k), Nat.mul_comm, ← Nat.pow_succ]
  exact h
theorem qs_drop_high (c n m k : Nat) (hn : n < 18446744073709551616 ^ k) (hm : m < 18446744073709551616 ^ k) : (qs c n).drop k = (qs c m).drop k := by
  apply List.ext_getElem?
  intro j
  rw [List.getElem?_drop, List.getElem?_drop]
  unfold qs
  simp only [List.getElem?_map]
  by_cases hc : k + j < c
  · rw [List.getElem?_range hc]
    simp only [Option.map_some]
    rw [limb_high n (k + j) (Nat.lt_of_lt_of_le hn (Nat.pow_le_pow_right (by decide) (by omega))), limb_high m (k + j) (Nat.lt_of_lt_of_le hm (Nat.pow_le_pow_right (by decide) (by omega)))]
  · have hn : (List.range c)[k + j]? = Option.none := List.getElem?_eq_none (by simp; omega)
    rw [hn]; rfl
/-- the number of limbs -/
def lval : List Nat → Nat
  | [] => 0
  | x :: l => x + 18446744073709551616 * lval l
theorem leN_append (a b : List UInt8) : leN (a ++ b) = leN a + 256 ^ a.length * leN b := by
  induction a with
  | nil => simp [leN]
  | cons x a ih =>
    simp only [List.cons_append, leN, ih, List.length_cons, Nat.pow_succ]
    rw [Nat.mul_add, Nat.mul_assoc, Nat.mul_comm 256 (256 ^ a.length * leN b)]
    have : 256 ^ a.length * (256 * leN b) = 256 ^ a.length * leN b * 256 := by rw [Nat.mul_comm 256, Nat.mul_assoc]
    omega
theorem leN_wb (x : Nat) (h : x < 18446744073709551616) : leN (wb x) = x := by
  unfold wb
  rw [show List.range 8 = [0, 1, 2, 3, 4, 5, 6, 7] from rfl]
  simp only [List.map_cons, List.map_nil, leN, UInt8.toNat_ofNat', Nat.reduceMul, Nat.reducePow]
  omega
theorem leN_wbs (l : List Nat) (h : ∀ x ∈ l, x < 18446744073709551616) : leN (wbs l) = lval l := by
  induction l with
  | nil => rfl
  | cons x l ih =>
    have := ih (fun y hy => h y (List.mem_cons_of_mem _ hy))
    show leN (wb x ++ wbs l) = _
    rw [leN_append, leN_wb x (h x List.mem_cons_self), wb_len, this]
    rfl
theorem qs_succ_gen (B m n : Nat) : (List.range (m + 1)).map (fun i => n / B ^ i % B) = (n / B ^ 0 % B) :: (List.range m).map (fun i => n / B / B ^ i % B) := by
  rw [List.range_succ_eq_map, List.map_cons, List.map_map]
  refine congrArg (List.cons _) (List.map_congr_left fun i _ => ?_)
  show n / B ^ (i + 1) % B = n / B / B ^ i % B
  rw [Nat.div_div_eq_div_mul, Nat.pow_succ, Nat.mul_comm]
theorem qs_succ (m n : Nat) : qs (m + 1) n = limb n 0 :: qs m (n / 18446744073709551616) := qs_succ_gen 18446744073709551616 m n
theorem lval_qs (m n : Nat) : lval (qs m n) = n % 18446744073709551616 ^ m := by
  induction m generalizing n with
  | zero => simp [qs, lval, Nat.mod_one]
  | succ m ih =>
    rw [qs_succ, lval, ih]
    unfold limb
    rw [Nat.pow_zero, Nat.div_one, Nat.pow_succ, Nat.mul_comm (18446744073709551616 ^ m), Nat.mod_mul]
theorem qs_lt (m n : Nat) : ∀ x ∈ qs m n, x < 18446744073709551616 := by
  intro x hx
  simp only [qs, List.mem_map] at hx
  obtain ⟨i, _, rfl⟩ := hx
  exact limb_lt n i
theorem leN_qs (m n : Nat) (h : n < 18446744073709551616 ^ m) : leN (wbs (qs m n)) = n := by
  rw [leN_wbs _ (qs_lt m n), lval_qs, Nat.mod_eq_of_lt h]
theorem leN_lt (l : List UInt8) : leN l < 256 ^ l.length := by
  induction l with
  | nil => simp [leN]
  | cons x l ih =>
    simp only [leN, List.length_cons, Nat.pow_succ]
    have := UInt8.toNat_lt x
    omega
theorem leN_inj : ∀ (a b : List UInt8), a.length = b.length → leN a = leN b → a = b
  | [], [], _, _ => rfl
  | x :: a, y :: b, hl, h => by
    simp only [leN] at h
    have hx := UInt8.toNat_lt x
    have hy := UInt8.toNat_lt y
    have h1 : x.toNat = y.toNat := by omega
    have h2 : leN a = leN b := by omega
    rw [leN_inj a b (by simpa using hl) h2, UInt8.toNat_inj.1 h1]
theorem qs_inj (m a b : Nat) (ha : a < 18446744073709551616 ^ m) (hb : b < 18446744073709551616 ^ m) (h : qs m a = qs m b) : a = b := by
  rw [← Nat.mod_eq_of_lt ha, ← Nat.mod_eq_of_lt hb, ← lval_qs, ← lval_qs, h]
theorem qs_lval (l : List Nat) (h : ∀ x ∈ l, x < 18446744073709551616) : qs l.length (lval l) = l := by
  induction l with
  | nil => rfl
  | cons x l ih =>
    rw [List.length_cons, qs_succ, lval]
    have hx := h x List.mem_cons_self
    rw [Nat.add_mul_div_left _ _ (by decide), Nat.div_eq_of_lt hx, Nat.zero_add, ih (fun y hy => h y (List.mem_cons_of_mem _ hy))]
    congr 1
    unfold limb
    rw [Nat.pow_zero, Nat.div_one, Nat.add_mul_mod_self_left, Nat.mod_eq_of_lt hx]
theorem lval_lt (l : List Nat) (h : ∀ x ∈ l, x < 18446744073709551616) : lval l < 18446744073709551616 ^ l.length := by
  induction l with
  | nil => simp [lval]
  | cons x l ih =>
    have hx := h x List.mem_cons_self
    have := ih (fun y hy => h y (List.mem_cons_of_mem _ hy))
    simp only [lval, List.length_cons, Nat.pow_succ]
    omega

end Go.Proofs.YtgkofpfjbjnhfaaDoor
