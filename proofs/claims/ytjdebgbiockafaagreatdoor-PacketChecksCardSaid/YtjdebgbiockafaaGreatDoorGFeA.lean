/- A part. -/
import Derived.Test.YtjdebgbiockafaaGreatDoorGSc3
set_option linter.unusedVariables false
set_option linter.unusedSimpArgs false
set_option maxRecDepth 100000
set_option maxHeartbeats 8000000
namespace Go.Proofs.YtjdebgbiockafaaGreatDoor
namespace Fe
def P5 : Nat := 57896044618658097711785492504343953926634992332820282019728792003956564819949
theorem P5_255 : 2 ^ 255 = P5 + 19 := by decide +kernel
theorem P5_pos : 0 < P5 := by decide
theorem P5_B : 2 * P5 < 18446744073709551616 ^ 4 := by decide +kernel
def redP (a : Nat) : Nat := if a < P5 then a else a - P5
theorem redP_mod (a : Nat) (h : a < 2 * P5) : redP a = a % P5 := by
 unfold redP
 split
 ·rename_i h1; rw [Nat.mod_eq_of_lt h1]
 rename_i h1
 rw [Nat.mod_eq_sub_mod (by omega), Nat.mod_eq_of_lt (by omega)]
def fold5 (S : Nat) : Nat := S % 2 ^ 255 + 19 * (S / 2 ^ 255)
theorem fold5_mod (S : Nat) : fold5 S % P5 = S % P5 := by
 have h := Nat.mod_add_div S (2 ^ 255)
 unfold fold5
 conv => rhs; rw [← h]
 conv => rhs; rw [P5_255]
 rw [← P5_255]
 generalize S % 2 ^ 255 = r
 generalize S / 2 ^ 255 = q
 rw [P5_255, Nat.add_mul, ← Nat.add_assoc, Nat.add_comm (r + P5 * q), ← Nat.add_assoc, Nat.add_mul_mod_self_left, Nat.add_comm]
def stepP (a e k q : Nat) : Nat := if e.testBit (255 - k) = true then q * q % P5 * a % P5 else q * q % P5
def pwr (a e : Nat) : Nat → Nat
 | 0 => 1
 | k + 1 => stepP a e k (pwr a e k)
theorem pwr_lt (a e k : Nat) : pwr a e k < P5 := by
 cases k with
 | zero => show 1 < P5; decide
 | succ k =>
  unfold pwr stepP
  split <;> exact Nat.mod_lt _ P5_pos
/-! digits of fifteen bits -/
def dval : List Nat → Nat
 | [] => 0
 | x :: l => x + 32768 * dval l
def dg (n i : Nat) : Nat := n / 32768 ^ i % 32768
theorem dg_lt (n i : Nat) : dg n i < 32768 := Nat.mod_lt _ (by decide)
def ds (m n : Nat) : List Nat := (List.range m).map (dg n)
theorem ds_len (m n : Nat) : (ds m n).length = m := by simp [ds]
theorem ds_get (m n k : Nat) (h : k < m) : (ds m n)[k]? = some (dg n k) := by simp [ds, h]
theorem ds_lt (m n : Nat) : ∀ x ∈ ds m n, x < 32768 := by
 intro x hx
 simp only [ds, List.mem_map] at hx
 obtain ⟨i, _, rfl⟩ := hx
 exact dg_lt n i
theorem ds_succ (m n : Nat) : ds (m + 1) n = dg n 0 :: ds m (n / 32768) := qs_succ_gen 32768 m n
theorem dval_ds (m n : Nat) : dval (ds m n) = n % 32768 ^ m := by
 induction m generalizing n with
 | zero => simp [ds, dval, Nat.mod_one]
 | succ m ih =>
  rw [ds_succ, dval, ih]
  unfold dg
  rw [Nat.pow_zero, Nat.div_one, Nat.pow_succ, Nat.mul_comm (32768 ^ m), Nat.mod_mul]
theorem dval_append (a b : List Nat) : dval (a ++ b) = dval a + 32768 ^ a.length * dval b := by
 induction a with
 | nil => simp [dval]
 | cons x a ih =>
  simp only [List.cons_append, dval, ih, List.length_cons, Nat.pow_succ]
  have e : 32768 ^ a.length * 32768 * dval b = 32768 * (32768 ^ a.length * dval b) := by rw [Nat.mul_comm (32768 ^ a.length) 32768, Nat.mul_assoc]
  rw [e]
  generalize 32768 ^ a.length * dval b = z
  omega
theorem dval_at (l : List Nat) (k x : Nat) (h : l[k]? = some x) : dval l = dval (l.take k) + 32768 ^ k * (x + 32768 * dval (l.drop (k + 1))) := by
 obtain ⟨hk, rfl⟩ := List.getElem?_eq_some_iff.1 h
 conv => lhs; rw [← List.take_append_drop k l]
 rw [dval_append, List.length_take, Nat.min_eq_left (by omega), List.drop_eq_getElem_cons hk]
 rfl
theorem dval_set (l : List Nat) (k x y : Nat) (h : l[k]? = some y) : dval (l.set k x) + 32768 ^ k * y = dval l + 32768 ^ k * x := by
 obtain ⟨hk, hy⟩ := List.getElem?_eq_some_iff.1 h
 rw [dval_at l k y h, dval_at (l.set k x) k x (by rw [List.getElem?_set_self hk])]
 rw [List.take_set_of_le (Nat.le_refl k), List.drop_set_of_lt (show k < k + 1 by omega)]
 simp only [Nat.mul_add]; omega
theorem dval_take_succ (l : List Nat) (k x : Nat) (h : l[k]? = some x) : dval (l.take (k + 1)) = dval (l.take k) + 32768 ^ k * x := by
 obtain ⟨hk, rfl⟩ := List.getElem?_eq_some_iff.1 h
 rw [List.take_succ_eq_append_getElem hk, dval_append, List.length_take, Nat.min_eq_left (by omega)]
 simp [dval]
theorem pD (k : Nat) : 0 < 32768 ^ k := Nat.pow_pos (by decide)
def cy (l : List Nat) (k : Nat) : Nat := dval (l.take k) / 32768 ^ k
theorem cy_0 (l : List Nat) : cy l 0 = 0 := by simp [cy, dval]
theorem cy_step (l : List Nat) (k x : Nat) (h : l[k]? = some x) : cy l (k + 1) = (x + cy l k) / 32768 ∧ dg (dval l) k = (x + cy l k) % 32768 := by
 constructor
 ·unfold cy
  rw [dval_take_succ l k x h, Nat.pow_succ, ← Nat.div_div_eq_div_mul, Nat.add_mul_div_left _ _ (pD k), Nat.add_comm]
 unfold cy dg
 rw [dval_at l k x h, Nat.add_mul_div_left _ _ (pD k)]
 omega
theorem cy_end (l : List Nat) : cy l l.length = dval l / 32768 ^ l.length := by unfold cy; rw [List.take_length]
theorem cy_le (l : List Nat) (M : Nat) (h : ∀ x ∈ l, x ≤ M) (k : Nat) (hk : k ≤ l.length) : cy l k ≤ 2 * M / 32768 := by
 induction k with
 | zero => rw [cy_0]; omega
 | succ k ih =>
  have hx : l[k]? = some l[k] := List.getElem?_eq_getElem (by omega)
  rw [(cy_step l k _ hx).1]
  have := h l[k] (List.getElem_mem _)
  have := ih (by omega)
  omega
structure St (V r : Nat) (l : List Nat) : Prop where
 len : l.length = 17
 le : ∀ x ∈ l, x ≤ 1152921504606846976
 mod : dval l % P5 = V % P5
 one : 1 ≤ r → dval l < 2 ^ 255 + 4503599627370496
 two : 2 ≤ r → dval l < 2 ^ 255
 three : 3 ≤ r → l = ds 17 (dval l)
def nextS (l : List Nat) : List Nat := (ds 17 (dval l)).set 0 (dg (dval l) 0 + 19 * cy l 17)
theorem D17 : 32768 ^ 17 = 2 ^ 255 := by decide +kernel
theorem nextS_val (l : List Nat) (hl : l.length = 17) : dval (nextS l) = fold5 (dval l) := by
 have h := dval_set (ds 17 (dval l)) 0 (dg (dval l) 0 + 19 * cy l 17) (dg (dval l) 0) (ds_get 17 _ 0 (by decide))
 rw [Nat.pow_zero, Nat.one_mul, Nat.one_mul, dval_ds] at h
 have e := cy_end l
 rw [hl] at e
 unfold nextS fold5
 rw [← D17]
 rw [e] at h ⊢
 omega
theorem St.next {V r : Nat} {l : List Nat} (h : St V r l) : St V (r + 1) (nextS l) := by
 have hv := nextS_val l h.len
 have hc := cy_le l _ h.le 17 (by rw [h.len]; exact Nat.le_refl _)
 have e := cy_end l
 rw [h.len, D17] at e
 have hM : 2 * 1152921504606846976 / 32768 = 70368744177664 := by decide
 rw [hM] at hc
 have hq : dval l / 2 ^ 255 ≤ 70368744177664 := by rw [← e]; exact hc
 have hm : dval l % 2 ^ 255 < 2 ^ 255 := Nat.mod_lt _ (by decide)
 refine ⟨by unfold nextS; rw [List.length_set, ds_len], ?_, by rw [hv, fold5_mod, h.mod], fun _ => ?_, fun hr => ?_, fun hr => ?_⟩
 ·intro x hx
  rcases List.mem_or_eq_of_mem_set hx with hx | rfl
  ·have := ds_lt 17 _ x hx; omega
  have := dg_lt (dval l) 0; omega
 ·rw [hv]; unfold fold5; omega
 ·have h1 := h.one (by omega)
  rw [hv]; unfold fold5
  have hp : (2 : Nat) ^ 255 > 4503599627370496 * 2 := by decide
  generalize (2 : Nat) ^ 255 = M at *
  have hdm := Nat.mod_add_div (dval l) M
  have hM0 : 0 < M := by omega
  rcases Nat.lt_or_ge (dval l) M with h2 | h2
  ·rw [Nat.div_eq_of_lt h2, Nat.mod_eq_of_lt h2]; omega
  have h3 : dval l / M = 1 := by
   refine Nat.div_eq_of_lt_le (by omega) (by omega)
  rw [h3] at hdm ⊢
  omega
 have h1 := h.two (by omega)
 have h0 : cy l 17 = 0 := by rw [e]; exact Nat.div_eq_of_lt h1
 have h2 : nextS l = ds 17 (dval l) := by
  unfold nextS
  rw [h0, Nat.mul_zero, Nat.add_zero]
  refine List.ext_getElem? fun j => ?_
  rcases Nat.eq_zero_or_pos j with rfl | hj
  ·rw [List.getElem?_set_self (by rw [ds_len]; decide), ds_get 17 _ 0 (by decide)]
  rw [List.getElem?_set_ne (by omega)]
 rw [hv, h2]
 refine congrArg (ds 17) ?_
 unfold fold5
 rw [Nat.div_eq_of_lt h1, Nat.mod_eq_of_lt h1]; omega
theorem St.done {V : Nat} {l : List Nat} (h : St V 4 l) : ∃ v, l = ds 17 v ∧ v < 2 ^ 255 ∧ (if v < P5 then v else v - P5) = V % P5 := by
 refine ⟨dval l, h.three (by decide), h.two (by decide), ?_⟩
 have h1 := h.two (by decide)
 rw [P5_255] at h1
 rw [← h.mod]
 exact redP_mod (dval l) (by have := P5_pos; have : 19 < P5 := by decide
                             omega)
theorem ds_inj (a b : Nat) (ha : a < 2 ^ 255) (hb : b < 2 ^ 255) (h : ds 17 a = ds 17 b) : a = b := by
 rw [← D17] at ha hb
 rw [← Nat.mod_eq_of_lt ha, ← Nat.mod_eq_of_lt hb, ← dval_ds, ← dval_ds, h]
/-! comparing, and differences -/
theorem mod_dg (n k : Nat) : n % 32768 ^ (k + 1) = n % 32768 ^ k + 32768 ^ k * dg n k := by rw [Nat.mod_pow_succ]; rfl
theorem lt_dg (a b k : Nat) (h : a / 32768 ^ (k + 1) = b / 32768 ^ (k + 1)) : (dg a k ≠ dg b k → (decide (dg a k < dg b k) = decide (a < b))) ∧ (dg a k = dg b k → a / 32768 ^ k = b / 32768 ^ k) := by
 have hp := pD k
 have e : ∀ n : Nat, n = n % 32768 ^ k + 32768 ^ k * dg n k + 32768 ^ (k + 1) * (n / 32768 ^ (k + 1)) := fun n => by
  rw [← mod_dg, Nat.mod_add_div]
 have ha := e a
 have hb := e b
 have h1 := Nat.mod_lt a hp
 have h2 := Nat.mod_lt b hp
 constructor
 ·intro hne
  apply decide_eq_decide.2
  have key := lt_split (32768 ^ k) (a % 32768 ^ k) (b % 32768 ^ k) (dg a k) (dg b k) h1 h2
  rw [h] at ha
  constructor
  ·intro hl
   have := key.2 (by split <;> omega)
   omega
  intro hl
  have := key.1 (by omega)
  split at this <;> omega
 intro he
 have q : ∀ n : Nat, n / 32768 ^ k = dg n k + 32768 * (n / 32768 ^ (k + 1)) := fun n => by
  unfold dg
  rw [Nat.pow_succ, ← Nat.div_div_eq_div_mul, Nat.mod_add_div]
 rw [q a, q b, he, h]
def ub (a b k : Nat) : Nat := if a % 32768 ^ k < b % 32768 ^ k then 1 else 0
theorem ub_le (a b k : Nat) : ub a b k ≤ 1 := by unfold ub; split <;> omega
theorem ub_0 (a b : Nat) : ub a b 0 = 0 := by simp [ub, Nat.mod_one]
theorem ub_step (a b k : Nat) : ub a b (k + 1) = if dg a k < dg b k + ub a b k then 1 else 0 := by
 unfold ub
 rw [mod_dg, mod_dg]
 have hM := pD k
 have := lt_split (32768 ^ k) (a % 32768 ^ k) (b % 32768 ^ k) (dg a k) (dg b k) (Nat.mod_lt _ hM) (Nat.mod_lt _ hM)
 simp only [this]
theorem sub_div (M a b : Nat) (hM : 0 < M) (h : b ≤ a) : (a - b) / M = a / M - b / M - (if a % M < b % M then 1 else 0) ∧ b / M + (if a % M < b % M then 1 else 0) ≤ a / M := by
 have ha := Nat.mod_add_div a M
 have hb := Nat.mod_add_div b M
 have h1 := Nat.mod_lt a hM
 have h2 := Nat.mod_lt b hM
 generalize a / M = A at *
 generalize b / M = C at *
 generalize a % M = r at *
 generalize b % M = s at *
 have hle : C + (if r < s then 1 else 0) ≤ A := by
  have key := lt_split M r s A C h1 h2
  rcases Nat.lt_or_ge A (C + if r < s then 1 else 0) with hh | hh
  ·have := key.2 hh; omega
  exact hh
 refine ⟨?_, hle⟩
 split at hle
 ·rename_i hrs
  rw [if_pos hrs]
  obtain ⟨E, rfl⟩ : ∃ E, A = C + 1 + E := ⟨A - C - 1, by omega⟩
  have e1 : M * (C + 1 + E) = M * C + M + M * E := by rw [Nat.mul_add, Nat.mul_add, Nat.mul_one]
  have e : a - b = (r + M - s) + M * E := by omega
  rw [e, Nat.add_mul_div_left _ _ hM, Nat.div_eq_of_lt (by omega)]; omega
 rename_i hrs
 rw [if_neg hrs]
 obtain ⟨E, rfl⟩ : ∃ E, A = C + E := ⟨A - C, by omega⟩
 have e1 : M * (C + E) = M * C + M * E := by rw [Nat.mul_add]
 have e : a - b = (r - s) + M * E := by omega
 rw [e, Nat.add_mul_div_left _ _ hM, Nat.div_eq_of_lt (by omega)]; omega
theorem sub_dg (a b : Nat) (h : b ≤ a) (k : Nat) : dg (a - b) k = (dg a k + 32768 - dg b k - ub a b k) % 32768 := by
 obtain ⟨h1, h2⟩ := sub_div (32768 ^ k) a b (pD k) h
 unfold dg ub
 rw [h1]
 have : (if a % 32768 ^ k < b % 32768 ^ k then 1 else 0) ≤ 1 := by split <;> omega
 generalize (if a % 32768 ^ k < b % 32768 ^ k then 1 else 0) = u at *
 omega
/-! numbers, bit by bit -/
theorem bit_dig (s m i j : Nat) (hs : 0 < s) (hm : m < 2 ^ i) : (m + 2 ^ i) / 2 ^ (s * j) % 2 ^ s = m / 2 ^ (s * j) % 2 ^ s + if j = i / s then 2 ^ (i % s) else 0 := by
 have hd := Nat.div_add_mod i s
 have hr := Nat.mod_lt i hs
 rcases Nat.lt_trichotomy j (i / s) with h | h | h
 ·rw [if_neg (by omega), Nat.add_zero]
  have h1 : s * (j + 1) ≤ i := by
   have := Nat.mul_le_mul_left s (show j + 1 ≤ i / s by omega)
   omega
  have h2 : (2 : Nat) ^ i = 2 ^ (s * j) * (2 ^ s * 2 ^ (i - s * (j + 1))) := by
   rw [← Nat.pow_add, ← Nat.pow_add]; congr 1; rw [Nat.mul_add] at h1 ⊢; omega
  rw [h2, Nat.add_mul_div_left _ _ (Nat.pow_pos (by decide)), Nat.add_mul_mod_self_left]
 ·subst h
  rw [if_pos rfl]
  have h2 : (2 : Nat) ^ i = 2 ^ (s * (i / s)) * 2 ^ (i % s) := by rw [← Nat.pow_add, hd]
  have h3 : m / 2 ^ (s * (i / s)) < 2 ^ (i % s) := by
   rw [Nat.div_lt_iff_lt_mul (Nat.pow_pos (by decide)), Nat.mul_comm, ← h2]; exact hm
  have h4 : 2 ^ (i % s) * 2 ≤ 2 ^ s := by
   rw [← Nat.pow_succ]; exact Nat.pow_le_pow_right (by decide) (by omega)
  have h5 : (m + 2 ^ i) / 2 ^ (s * (i / s)) = m / 2 ^ (s * (i / s)) + 2 ^ (i % s) := by
   conv => lhs; rw [h2]
   exact Nat.add_mul_div_left _ _ (Nat.pow_pos (by decide))
  rw [h5, Nat.mod_eq_of_lt (a := m / 2 ^ (s * (i / s)) + 2 ^ (i % s)) (by omega), Nat.mod_eq_of_lt (a := m / 2 ^ (s * (i / s))) (by omega)]
 rw [if_neg (by omega), Nat.add_zero]
 have h1 : i + 1 ≤ s * j := by
  have h5 := Nat.mul_le_mul_left s (show i / s + 1 ≤ j by omega)
  rw [Nat.mul_add, Nat.mul_one] at h5
  omega
 have h2 : (2 : Nat) ^ i * 2 ≤ 2 ^ (s * j) := by
  rw [← Nat.pow_succ]; exact Nat.pow_le_pow_right (by decide) h1
 rw [Nat.div_eq_of_lt (by omega), Nat.div_eq_of_lt (by omega)]
theorem mod_bit (n i : Nat) : n % 2 ^ (i + 1) = n % 2 ^ i + if n.testBit i = true then 2 ^ i else 0 := by
 rw [Nat.mod_pow_succ, Nat.testBit_eq_decide_div_mod_eq]
 have : n / 2 ^ i % 2 < 2 := Nat.mod_lt _ (by decide)
 simp only [decide_eq_true_eq]
 split
 ·rename_i h; rw [h, Nat.mul_one]
 rename_i h
 have : n / 2 ^ i % 2 = 0 := by omega
 rw [this, Nat.mul_zero]
theorem dg_pow (n j : Nat) : dg n j = n / 2 ^ (15 * j) % 2 ^ 15 := by
 unfold dg
 rw [Nat.pow_mul]
theorem ds_bit (n i : Nat) : ds 17 (n % 2 ^ (i + 1)) = if n.testBit i = true then (ds 17 (n % 2 ^ i)).set (i / 15) (dg (n % 2 ^ i) (i / 15) + 2 ^ (i % 15)) else ds 17 (n % 2 ^ i) := by
 rw [mod_bit]
 split
 ·refine List.ext_getElem? fun j => ?_
  have hm : n % 2 ^ i < 2 ^ i := Nat.mod_lt _ (Nat.pow_pos (by decide))
  by_cases hj : j < 17
  ·rw [ds_get 17 _ j hj, dg_pow, bit_dig 15 _ i j (by decide) hm, ← dg_pow]
   by_cases he : j = i / 15
   ·rw [if_pos he, ← he, List.getElem?_set_self (by rw [ds_len]; exact hj)]
   rw [if_neg he, List.getElem?_set_ne (by omega), ds_get 17 _ j hj, Nat.add_zero]
  rw [List.getElem?_eq_none (by rw [ds_len]; omega), List.getElem?_eq_none (by rw [List.length_set, ds_len]; omega)]
 rw [Nat.add_zero]
def bl (n : Nat) : List UInt8 := (List.range 32).map fun j => UInt8.ofNat (n / 256 ^ j % 256)
theorem bl_len (n : Nat) : (bl n).length = 32 := by simp [bl]
theorem bl_get (n j : Nat) (h : j < 32) : (bl n)[j]? = some (UInt8.ofNat (n / 256 ^ j % 256)) := by simp [bl, h]
theorem leN_map (m n : Nat) : leN ((List.range m).map fun j => UInt8.ofNat (n / 256 ^ j % 256)) = n % 256 ^ m := by
 induction m generalizing n with
 | zero => simp [leN, Nat.mod_one]
 | succ m ih =>
  rw [List.range_succ_eq_map, List.map_cons, List.map_map, leN]
  have h := ih (n / 256)
  have e : ((List.range m).map ((fun j => UInt8.ofNat (n / 256 ^ j % 256)) ∘ Nat.succ)) = (List.range m).map fun j => UInt8.ofNat (n / 256 / 256 ^ j % 256) := by
   apply List.map_congr_left
   intro i _
   show UInt8.ofNat (n / 256 ^ (i + 1) % 256) = _
   rw [Nat.div_div_eq_div_mul, Nat.pow_succ, Nat.mul_comm]
  rw [e, h, Nat.pow_succ, Nat.mul_comm (256 ^ m), Nat.mod_mul, Nat.pow_zero, Nat.div_one, UInt8.toNat_ofNat']
  omega
theorem leN_bl (n : Nat) (h : n < 256 ^ 32) : leN (bl n) = n := by
 unfold bl
 rw [leN_map, Nat.mod_eq_of_lt h]
theorem bl_leN (l : List UInt8) (h : l.length = 32) : bl (leN l) = l := by
 have h1 := leN_lt l
 rw [h] at h1
 exact leN_inj _ _ (by rw [bl_len, h]) (leN_bl _ h1)
theorem B256 : 256 ^ 32 = 18446744073709551616 ^ 4 := by decide +kernel
theorem bl_wbs (n : Nat) (h : n < 18446744073709551616 ^ 4) : wbs (qs 4 n) = bl n := by
 refine leN_inj _ _ ?_ ?_
 ·rw [wbs_len, qs_len, bl_len]
 rw [leN_qs 4 n h, leN_bl n (by rw [B256]; exact h)]
theorem bl_bit (n i : Nat) : bl (n % 2 ^ (i + 1)) = if n.testBit i = true then (bl (n % 2 ^ i)).set (i / 8) (UInt8.ofNat (n % 2 ^ i / 256 ^ (i / 8) % 256 + 2 ^ (i % 8))) else bl (n % 2 ^ i) := by
 rw [mod_bit]
 split
 ·refine List.ext_getElem? fun j => ?_
  have hm : n % 2 ^ i < 2 ^ i := Nat.mod_lt _ (Nat.pow_pos (by decide))
  have e : ∀ j, (256 : Nat) ^ j = 2 ^ (8 * j) := fun j => by rw [Nat.pow_mul]
  by_cases hj : j < 32
  ·rw [bl_get _ j hj, e, show (256 : Nat) = 2 ^ 8 from rfl, bit_dig 8 _ i j (by decide) hm]
   by_cases he : j = i / 8
   ·rw [if_pos he, ← he, List.getElem?_set_self (by rw [bl_len]; exact hj), ← Nat.pow_mul]
   rw [if_neg he, List.getElem?_set_ne (by omega), bl_get _ j hj, Nat.add_zero, e]
  rw [List.getElem?_eq_none (by rw [bl_len]; omega), List.getElem?_eq_none (by rw [List.length_set, bl_len]; omega)]
 rw [Nat.add_zero]
end Fe
end Go.Proofs.YtjdebgbiockafaaGreatDoor
namespace Go.Proofs.YtjdebgbiockafaaGreatDoor
namespace Fe
open Go.ChangeShapes Go.WideShapes Go.ChangeAt Go.RowKit
theorem less_any (a b : Nat) (ha : a < 18446744073709551616 ^ 4) (hb : b < 18446744073709551616 ^ 4) (w : World) :
  Calls Tryz.prog 109 #[.agg (q4 a), .agg (q4 b)] w fun e w' => e = .returned (.tuple #[.agg (q4 (a + 18446744073709551616 ^ 4 - b)), lv (br a b 4)]) ∧ Below w.heap.size w w' := by
 have hu := Tryz.underlying126
 have hz : ∀ w, (zeroValue 126).run Tryz.prog w = .ok (.agg (q4 0)) w := fun w => by rw [qz4]; kernel_rfl
 have hs : (Tryz.prog.info? 126).map (·.size) = some 4 := by kernel_rfl
 have HsR : Hid ((Tryz.prog.info? 126).map (·.size) = some (q4 (a + 18446744073709551616 ^ 4 - b)).size) := hide (by rw [q4_size]; exact hs)
 have h0 := ((((on_all w).alloc (.cells (q4 a) 126)).alloc (.cells (q4 b) 126)).alloc (.cells (q4 0) 126)).alloc (.cells (q4 0) 126)
 have hs0 := ((((Str.refl w).alloc (.cells (q4 a) 126)).alloc (.cells (q4 b) 126)).alloc (.cells (q4 0) 126)).alloc (.cells (q4 0) 126)
 simp only [World.size_alloc] at h0
 obtain ⟨S, hS⟩ : ∃ S, S = a + 18446744073709551616 ^ 4 - b := ⟨_, rfl⟩
 have HSub := hide (fun k hk => sub_limb a b ha hb k hk)
 rw [← hS] at HSub HsR
 have HS := hide hS
 have H0 := hide h0
 have HS0 := hide hs0
 clear h0 hs0 hS ha hb
 generalize hA : q4 a = A4 at *
 generalize hB : q4 b = B4 at *
 generalize hZ : q4 0 = Z4 at *
 have HA := hide hA
 have HB := hide hB
 have HZ := hide hZ
 clear hA hB hZ hs
 go_enter Tryz.func109, Tryz.ntmps109
 go_wp2_with fail
 generalize (((w.alloc (.cells A4 126)).alloc (.cells B4 126)).alloc (.cells Z4 126)).alloc (.cells Z4 126) = w1 at *
 go_loopw [7, 9] (fun bv i wr => ∃ k : Nat, k ≤ 4 ∧ i = .int .i64 k ∧ bv = lv (br a b k) ∧ (blk (w.heap.size + 1 + 1 + 1) (.cells (lvs ((qs 4 S).take k ++ (List.replicate 4 0).drop k)) 126 (0, 0)) * (blk (w.heap.size + 1 + 1) (.cells Z4 126 (0, 0)) * (blk (w.heap.size + 1) (.cells B4 126 (0, 0)) * (blk w.heap.size (.cells A4 126 (0, 0)) * all w)))).on wr ∧ Str w wr) (fun _ i _ => 4 - (intOf i).toNat)
 case atStart =>
  refine ⟨0, by omega, rfl, by simp [br, Nat.mod_one], ?_, HS0.out⟩
  have := H0.out
  rw [← HZ.out] at this ⊢
  rw [show (qs 4 S).take 0 ++ (List.replicate 4 0).drop 0 = qs 4 0 by rw [qz]; rfl]
  exact this
 obtain ⟨k, hk, rfl, rfl, hX, hS2⟩ := hrel
 have HXk := hide hX
 have HSk := hide hS2
 clear hX hS2 H0 HS0
 by_cases hlt : k < 4
 ·have hstep := br_step a b k
  have hsub := HSub.out k hlt
  have Hset := hide (set_takeN (qs 4 S) (List.replicate 4 0) k (limb S k) (qs_get 4 S k hlt) (by simp; omega))
  have HcA : Hid (∀ X, (blk w.heap.size (.cells A4 126 (0, 0)) * all w).on X → X.cell? ⟨w.heap.size, k, .none⟩ = some (lv (limb a k))) := hide fun X hX => by rw [cell_of_row X w.heap.size k A4 _ _ (on_blk_mul hX), ← HA.out]; exact lvs_get _ k (limb a k) (qs_get 4 a k hlt)
  have HcB : Hid (∀ X, (blk (w.heap.size + 1) (.cells B4 126 (0, 0)) * (blk w.heap.size (.cells A4 126 (0, 0)) * all w)).on X → X.cell? ⟨w.heap.size + 1, k, .none⟩ = some (lv (limb b k))) := hide fun X hX => by rw [cell_of_row X (w.heap.size + 1) k B4 _ _ (on_blk_mul hX), ← HB.out]; exact lvs_get _ k (limb b k) (qs_get 4 b k hlt)
  have hcall := fun X => sub64_run (limb a k) (limb b k) (br a b k) (br_le _ _ _) X
  rw [← hsub, ← hstep] at hcall
  have Hcall := hide hcall
  have l1 := limb_lt a k
  have l2 := limb_lt b k
  have l3 := limb_lt S k
  have l4 := br_le a b k
  have l5 := br_le a b (k + 1)
  have hpl := part_len (qs 4 S) (qs_len 4 S) k hk
  obtain ⟨pl, hpl2⟩ : ∃ pl, pl = (qs 4 S).take k ++ (List.replicate 4 0).drop k := ⟨_, rfl⟩
  rw [← hpl2] at hpl HXk Hset
  have Hstep := hide hstep
  obtain ⟨P1, hP1⟩ : ∃ P1, P1 = lvs pl := ⟨_, rfl⟩
  obtain ⟨P2, hP2⟩ : ∃ P2, P2 = lvs (pl.set k (limb S k)) := ⟨_, rfl⟩
  have Hp2 := hide (show P1.setIfInBounds k (lv (limb S k)) = P2 by rw [hP1, hP2, lvs_set])
  have HP2 := hide (show P2 = lvs ((qs 4 S).take (k + 1) ++ (List.replicate 4 0).drop (k + 1)) by rw [hP2, Hset.out])
  have Hps := hide (show k < P1.size by rw [hP1, lvs_size]; omega)
  have hs8 : (Tryz.prog.info? 50).map (·.size) = some 1 := by kernel_rfl
  rw [← hP1] at HXk
  clear hsub hcall hpl hpl2 hstep hP1 hP2 Hset
  generalize limb a k = x at *
  generalize limb b k = y at *
  generalize br a b k = bb at *
  generalize hbb2 : br a b (k + 1) = bb2 at *
  have Hbb2 := hide hbb2
  clear hbb2
  generalize limb S k = dk at *
  have hk4 : (k : Int) < 4 := by omega
  go_wp2_with fail
  refine AppK.wp_region_set 13 [isV (.int .i64 (k : Int)), isV (.int .i64 (k : Int)), isV (.pointer (some ⟨w.heap.size, k, .none⟩)), isV (lv x), isV (.int .i64 (k : Int)), isV (.pointer (some ⟨w.heap.size + 1, k, .none⟩)), isV (lv y), isV (lv bb), isV (.tuple #[lv dk, lv bb2]), isV (.tuple #[lv dk, lv bb2]), isV (lv dk), isV (lv bb2), isV (.pointer (some ⟨w.heap.size + 1 + 1 + 1, k, .none⟩)), (fun _ _ => True), isV (lv bb2)]
   [isV (.int .i64 (k : Int)), isV (.int .i64 (k : Int)), isV (.pointer (some ⟨w.heap.size, k, .none⟩)), isV (lv x), isV (.int .i64 (k : Int)), isV (.pointer (some ⟨w.heap.size + 1, k, .none⟩)), isV (lv y), isV (lv bb), isV (.tuple #[lv dk, lv bb2]), isV (.tuple #[lv dk, lv bb2]), isV (lv dk), isV (lv bb2), isV (.pointer (some ⟨w.heap.size + 1 + 1 + 1, k, .none⟩)), (fun _ _ => True), isV (lv bb2)] _ rfl (by kernel_rfl) (by kernel_rfl) rfl (by decide) (.inr rfl) (fun ph X => (blk (w.heap.size + 1 + 1 + 1) (.cells (if ph = true then P2 else P1) 126 (0, 0)) * (blk (w.heap.size + 1 + 1) (.cells Z4 126 (0, 0)) * (blk (w.heap.size + 1) (.cells B4 126 (0, 0)) * (blk w.heap.size (.cells A4 126 (0, 0)) * all w)))).on X ∧ Str w X) ⟨SP.on.drew HXk.out, Str.drew HSk.out⟩ (fun ph a b h st => ⟨h.1.below st, h.2.trans (Str.below st)⟩) kP kP ?store ?todo ?r61
  case store =>
   intro ev X hT hb hk hf
   have hX : (blk (w.heap.size + 1 + 1 + 1) (.cells P1 126 (0, 0)) * (blk (w.heap.size + 1 + 1) (.cells Z4 126 (0, 0)) * (blk (w.heap.size + 1) (.cells B4 126 (0, 0)) * (blk w.heap.size (.cells A4 126 (0, 0)) * all w)))).on X := hT.1
   exact OpOk.store_one _ _ _ rfl (w.heap.size + 1 + 1 + 1) k (lv dk) (fX ev 24 hf.1) (fX ev 22 hf.2.1) rfl _ P1 hX hs8 Hps.out rfl P2 Hp2.out (fun h3 => ⟨⟨h3, hT.2.setRow _ _⟩, trivial, fun i _ hv => vList_free fR i _ _ _ hv⟩)
  case todo =>
   refine ⟨?_, ?_, ?_, ?_, ?_, ?_, ?_, ?_, ?_, ?_, ?_, ?_, ?_, ?_, ?_, trivial⟩
   ·refine pK fun ev X hT hb hk hf => ?_
    exact OpOk.m rfl (fV ev 8 (.int .i64 (k : Int)) hk.1)
   ·refine pK fun ev X hT hb hk hf => ?_
    exact OpOk.m rfl (fV ev 8 (.int .i64 (k : Int)) hk.1)
   ·refine pK fun ev X hT hb hk hf => ?_
    exact OpOk.r (by simp [execOp, fV ev 2 (.pointer (some ⟨w.heap.size, 0, .none⟩)) hk.1, fX ev 14 hf.1, hb.1, hb.2.1, hb.2.2, hk4, go_sem]; try (intro h; omega))
   ·refine pK fun ev X hT hb hk hf => ?_
    have cW := HcA.out X hT.1.right.right.right
    exact OpOk.sc (fX ev 15 hf.1) cW
   ·refine pK fun ev X hT hb hk hf => ?_
    exact OpOk.m rfl (fV ev 8 (.int .i64 (k : Int)) hk.1)
   ·refine pK fun ev X hT hb hk hf => ?_
    exact OpOk.r (by simp [execOp, fV ev 3 (.pointer (some ⟨w.heap.size + 1, 0, .none⟩)) hk.1, fX ev 17 hf.1, hb.1, hb.2.1, hb.2.2, hk4, go_sem]; try (intro h; omega))
   ·refine pK fun ev X hT hb hk hf => ?_
    have cW := HcB.out X hT.1.right.right
    exact OpOk.sc (fX ev 18 hf.1) cW
   ·refine pK fun ev X hT hb hk hf => ?_
    have e0 : ev (.tmp 7) = lv bb := fP hk.1 (by kernel_rfl)
    exact OpOk.m rfl e0
   ·refine pK fun ev X hT hb hk hf => ?_
    exact OpOk.r (by have h9 := Hcall.out X; simp [execOp, resolve, invoke, fX ev 16 hf.1, fX ev 19 hf.2.1, fX ev 20 hf.2.2.1, hb.1, hb.2.1, h9, go_sem])
   ·refine pK fun ev X hT hb hk hf => ?_
    exact OpOk.m rfl (fX ev 21 hf.1)
   ·refine pK fun ev X hT hb hk hf => ?_
    exact OpOk.s (fX ev 12 hf.1) hb
   ·intro _ ph h1 h2
    cases ph
    all_goals
     intro ev X hT hb hk hf
     exact OpOk.s (fX ev 12 hf.1) hb
   ·refine pK fun ev X hT hb hk hf => ?_
    exact OpOk.r (by simp [execOp, fV ev 6 (.pointer (some ⟨w.heap.size + 1 + 1 + 1, 0, .none⟩)) hk.1, fX ev 13 hf.1, hb.1, hb.2.1, hb.2.2, hk4, go_sem]; try (intro h; omega))
   ·exact fun h => absurd rfl h
   intro _ ph h1 h2
   obtain rfl : ph = true := h1 (by kernel_rfl)
   intro ev X hT hb hk hf
   exact OpOk.assign rfl (fX ev 23 hf.1) ⟨rfl, Stay.refl _⟩
  intro X hT
  rintro _ - _ - _ - _ - _ - _ - _ - _ - _ - _ - _ - _ - _ - _ - _ rfl
  have hX2 : (blk (w.heap.size + 1 + 1 + 1) (.cells P2 126 (0, 0)) * (blk (w.heap.size + 1 + 1) (.cells Z4 126 (0, 0)) * (blk (w.heap.size + 1) (.cells B4 126 (0, 0)) * (blk w.heap.size (.cells A4 126 (0, 0)) * all w)))).on X := hT.1
  have HX2 := hide hX2
  have HST := hide hT.2
  clear hT hX2
  go_wp2
  refine Rest.done ?_
  go_wp2
  refine ⟨⟨k + 1, by omega, by simp, by rw [Hbb2.out], by rw [← HP2.out]; exact HX2.out, HST.out⟩, by simp [intOf]; omega⟩
 obtain rfl : k = 4 := by omega
 have e4 : (qs 4 S).take 4 ++ (List.replicate 4 0).drop 4 = qs 4 S := by rw [List.take_of_length_le (by rw [qs_len]; omega)]; simp
 rw [e4] at HXk
 have gD := on_blk_mul HXk.out
 have gR := on_blk_mul HXk.out.right
 have HB2 := hide (all_below HXk.out.right.right.right.right HSk.out)
 have hzz : Z4.size = 4 := by rw [← HZ.out, q4_size]
 have hone := lvs_one (qs 4 S)
 have hzA : Z4.size = (q4 S).size := by rw [hzz, q4_size]
 rw [show lvs (qs 4 S) = q4 S from rfl] at gD hone
 generalize hD4 : q4 S = D4 at *
 have HD4 := hide hD4
 have Hfin := hide (show q4 (a + 18446744073709551616 ^ 4 - b) = D4 by rw [← HS.out, hD4])
 clear e4 hzz hD4 HXk
 generalize hcf : br a b 4 = cf at *
 have Hcf := hide hcf
 clear hcf
 go_wp2_with (first
  | (refine wS gR HsR.out hzA hone ?_)
  | (refine wL gD hu HsR ?_))
 exact retT Tryz.results109 gR hu HsR.out rfl (lv cf) (by rw [Hfin.out, Hcf.out]) HB2.out (by omega)
theorem more_any (a b : Nat) (ha : a < 18446744073709551616 ^ 4) (hb : b < 18446744073709551616 ^ 4) (w : World) :
  Calls Tryz.prog 112 #[.agg (q4 a), .agg (q4 b)] w fun e w' => e = .returned (.tuple #[.agg (q4 (a + b)), lv (cAdd a b 4)]) ∧ Below w.heap.size w w' := by
 have hu := Tryz.underlying126
 have hz : ∀ w, (zeroValue 126).run Tryz.prog w = .ok (.agg (q4 0)) w := fun w => by rw [qz4]; kernel_rfl
 have hs : (Tryz.prog.info? 126).map (·.size) = some 4 := by kernel_rfl
 have HsR : Hid ((Tryz.prog.info? 126).map (·.size) = some (q4 (a + b)).size) := hide (by rw [q4_size]; exact hs)
 have h0 := ((((on_all w).alloc (.cells (q4 a) 126)).alloc (.cells (q4 b) 126)).alloc (.cells (q4 0) 126)).alloc (.cells (q4 0) 126)
 have hs0 := ((((Str.refl w).alloc (.cells (q4 a) 126)).alloc (.cells (q4 b) 126)).alloc (.cells (q4 0) 126)).alloc (.cells (q4 0) 126)
 simp only [World.size_alloc] at h0
 obtain ⟨S, hS⟩ : ∃ S, S = a + b := ⟨_, rfl⟩
 have HSub := hide (fun k (hk : k < 4) => cAdd_limb a b k)
 rw [← hS] at HSub HsR
 have HS := hide hS
 have H0 := hide h0
 have HS0 := hide hs0
 clear h0 hs0 hS ha hb
 generalize hA : q4 a = A4 at *
 generalize hB : q4 b = B4 at *
 generalize hZ : q4 0 = Z4 at *
 have HA := hide hA
 have HB := hide hB
 have HZ := hide hZ
 clear hA hB hZ hs
 go_enter Tryz.func112, Tryz.ntmps112
 go_wp2_with fail
 generalize (((w.alloc (.cells A4 126)).alloc (.cells B4 126)).alloc (.cells Z4 126)).alloc (.cells Z4 126) = w1 at *
 go_loopw [7, 9] (fun bv i wr => ∃ k : Nat, k ≤ 4 ∧ i = .int .i64 k ∧ bv = lv (cAdd a b k) ∧ (blk (w.heap.size + 1 + 1 + 1) (.cells (lvs ((qs 4 S).take k ++ (List.replicate 4 0).drop k)) 126 (0, 0)) * (blk (w.heap.size + 1 + 1) (.cells Z4 126 (0, 0)) * (blk (w.heap.size + 1) (.cells B4 126 (0, 0)) * (blk w.heap.size (.cells A4 126 (0, 0)) * all w)))).on wr ∧ Str w wr) (fun _ i _ => 4 - (intOf i).toNat)
 case atStart =>
  refine ⟨0, by omega, rfl, by rw [cAdd_0]; rfl, ?_, HS0.out⟩
  have := H0.out
  rw [← HZ.out] at this ⊢
  rw [show (qs 4 S).take 0 ++ (List.replicate 4 0).drop 0 = qs 4 0 by rw [qz]; rfl]
  exact this
 obtain ⟨k, hk, rfl, rfl, hX, hS2⟩ := hrel
 have HXk := hide hX
 have HSk := hide hS2
 clear hX hS2 H0 HS0
 by_cases hlt : k < 4
 ·have hstep := cAdd_step a b k
  have hsub := HSub.out k hlt
  have Hset := hide (set_takeN (qs 4 S) (List.replicate 4 0) k (limb S k) (qs_get 4 S k hlt) (by simp; omega))
  have HcA : Hid (∀ X, (blk w.heap.size (.cells A4 126 (0, 0)) * all w).on X → X.cell? ⟨w.heap.size, k, .none⟩ = some (lv (limb a k))) := hide fun X hX => by rw [cell_of_row X w.heap.size k A4 _ _ (on_blk_mul hX), ← HA.out]; exact lvs_get _ k (limb a k) (qs_get 4 a k hlt)
  have HcB : Hid (∀ X, (blk (w.heap.size + 1) (.cells B4 126 (0, 0)) * (blk w.heap.size (.cells A4 126 (0, 0)) * all w)).on X → X.cell? ⟨w.heap.size + 1, k, .none⟩ = some (lv (limb b k))) := hide fun X hX => by rw [cell_of_row X (w.heap.size + 1) k B4 _ _ (on_blk_mul hX), ← HB.out]; exact lvs_get _ k (limb b k) (qs_get 4 b k hlt)
  have hcall := fun X => add64_run (limb a k) (limb b k) (cAdd a b k) (cAdd_le _ _ _) X
  rw [← hsub, ← hstep] at hcall
  have Hcall := hide hcall
  have l1 := limb_lt a k
  have l2 := limb_lt b k
  have l3 := limb_lt S k
  have l4 := cAdd_le a b k
  have l5 := cAdd_le a b (k + 1)
  have hpl := part_len (qs 4 S) (qs_len 4 S) k hk
  obtain ⟨pl, hpl2⟩ : ∃ pl, pl = (qs 4 S).take k ++ (List.replicate 4 0).drop k := ⟨_, rfl⟩
  rw [← hpl2] at hpl HXk Hset
  have Hstep := hide hstep
  obtain ⟨P1, hP1⟩ : ∃ P1, P1 = lvs pl := ⟨_, rfl⟩
  obtain ⟨P2, hP2⟩ : ∃ P2, P2 = lvs (pl.set k (limb S k)) := ⟨_, rfl⟩
  have Hp2 := hide (show P1.setIfInBounds k (lv (limb S k)) = P2 by rw [hP1, hP2, lvs_set])
  have HP2 := hide (show P2 = lvs ((qs 4 S).take (k + 1) ++ (List.replicate 4 0).drop (k + 1)) by rw [hP2, Hset.out])
  have Hps := hide (show k < P1.size by rw [hP1, lvs_size]; omega)
  have hs8 : (Tryz.prog.info? 50).map (·.size) = some 1 := by kernel_rfl
  rw [← hP1] at HXk
  clear hsub hcall hpl hpl2 hstep hP1 hP2 Hset
  generalize limb a k = x at *
  generalize limb b k = y at *
  generalize cAdd a b k = bb at *
  generalize hbb2 : cAdd a b (k + 1) = bb2 at *
  have Hbb2 := hide hbb2
  clear hbb2
  generalize limb S k = dk at *
  have hk4 : (k : Int) < 4 := by omega
  go_wp2_with fail
  refine AppK.wp_region_set 13 [isV (.int .i64 (k : Int)), isV (.int .i64 (k : Int)), isV (.pointer (some ⟨w.heap.size, k, .none⟩)), isV (lv x), isV (.int .i64 (k : Int)), isV (.pointer (some ⟨w.heap.size + 1, k, .none⟩)), isV (lv y), isV (lv bb), isV (.tuple #[lv dk, lv bb2]), isV (.tuple #[lv dk, lv bb2]), isV (lv dk), isV (lv bb2), isV (.pointer (some ⟨w.heap.size + 1 + 1 + 1, k, .none⟩)), (fun _ _ => True), isV (lv bb2)]
   [isV (.int .i64 (k : Int)), isV (.int .i64 (k : Int)), isV (.pointer (some ⟨w.heap.size, k, .none⟩)), isV (lv x), isV (.int .i64 (k : Int)), isV (.pointer (some ⟨w.heap.size + 1, k, .none⟩)), isV (lv y), isV (lv bb), isV (.tuple #[lv dk, lv bb2]), isV (.tuple #[lv dk, lv bb2]), isV (lv dk), isV (lv bb2), isV (.pointer (some ⟨w.heap.size + 1 + 1 + 1, k, .none⟩)), (fun _ _ => True), isV (lv bb2)] _ rfl (by kernel_rfl) (by kernel_rfl) rfl (by decide) (.inr rfl) (fun ph X => (blk (w.heap.size + 1 + 1 + 1) (.cells (if ph = true then P2 else P1) 126 (0, 0)) * (blk (w.heap.size + 1 + 1) (.cells Z4 126 (0, 0)) * (blk (w.heap.size + 1) (.cells B4 126 (0, 0)) * (blk w.heap.size (.cells A4 126 (0, 0)) * all w)))).on X ∧ Str w X) ⟨SP.on.drew HXk.out, Str.drew HSk.out⟩ (fun ph a b h st => ⟨h.1.below st, h.2.trans (Str.below st)⟩) kP kP ?store ?todo ?r62
  case store =>
   intro ev X hT hb hk hf
   have hX : (blk (w.heap.size + 1 + 1 + 1) (.cells P1 126 (0, 0)) * (blk (w.heap.size + 1 + 1) (.cells Z4 126 (0, 0)) * (blk (w.heap.size + 1) (.cells B4 126 (0, 0)) * (blk w.heap.size (.cells A4 126 (0, 0)) * all w)))).on X := hT.1
   exact OpOk.store_one _ _ _ rfl (w.heap.size + 1 + 1 + 1) k (lv dk) (fX ev 24 hf.1) (fX ev 22 hf.2.1) rfl _ P1 hX hs8 Hps.out rfl P2 Hp2.out (fun h3 => ⟨⟨h3, hT.2.setRow _ _⟩, trivial, fun i _ hv => vList_free fR i _ _ _ hv⟩)
  case todo =>
   refine ⟨?_, ?_, ?_, ?_, ?_, ?_, ?_, ?_, ?_, ?_, ?_, ?_, ?_, ?_, ?_, trivial⟩
   ·refine pK fun ev X hT hb hk hf => ?_
    exact OpOk.m rfl (fV ev 8 (.int .i64 (k : Int)) hk.1)
   ·refine pK fun ev X hT hb hk hf => ?_
    exact OpOk.m rfl (fV ev 8 (.int .i64 (k : Int)) hk.1)
   ·refine pK fun ev X hT hb hk hf => ?_
    exact OpOk.r (by simp [execOp, fV ev 2 (.pointer (some ⟨w.heap.size, 0, .none⟩)) hk.1, fX ev 14 hf.1, hb.1, hb.2.1, hb.2.2, hk4, go_sem]; try (intro h; omega))
   ·refine pK fun ev X hT hb hk hf => ?_
    have cW := HcA.out X hT.1.right.right.right
    exact OpOk.sc (fX ev 15 hf.1) cW
   ·refine pK fun ev X hT hb hk hf => ?_
    exact OpOk.m rfl (fV ev 8 (.int .i64 (k : Int)) hk.1)
   ·refine pK fun ev X hT hb hk hf => ?_
    exact OpOk.r (by simp [execOp, fV ev 3 (.pointer (some ⟨w.heap.size + 1, 0, .none⟩)) hk.1, fX ev 17 hf.1, hb.1, hb.2.1, hb.2.2, hk4, go_sem]; try (intro h; omega))
   ·refine pK fun ev X hT hb hk hf => ?_
    have cW := HcB.out X hT.1.right.right
    exact OpOk.sc (fX ev 18 hf.1) cW
   ·refine pK fun ev X hT hb hk hf => ?_
    have e0 : ev (.tmp 7) = lv bb := fP hk.1 (by kernel_rfl)
    exact OpOk.m rfl e0
   ·refine pK fun ev X hT hb hk hf => ?_
    exact OpOk.r (by have h9 := Hcall.out X; simp [execOp, resolve, invoke, fX ev 16 hf.1, fX ev 19 hf.2.1, fX ev 20 hf.2.2.1, hb.1, hb.2.1, h9, go_sem])
   ·refine pK fun ev X hT hb hk hf => ?_
    exact OpOk.m rfl (fX ev 21 hf.1)
   ·refine pK fun ev X hT hb hk hf => ?_
    exact OpOk.s (fX ev 12 hf.1) hb
   ·intro _ ph h1 h2
    cases ph
    all_goals
     intro ev X hT hb hk hf
     exact OpOk.s (fX ev 12 hf.1) hb
   ·refine pK fun ev X hT hb hk hf => ?_
    exact OpOk.r (by simp [execOp, fV ev 6 (.pointer (some ⟨w.heap.size + 1 + 1 + 1, 0, .none⟩)) hk.1, fX ev 13 hf.1, hb.1, hb.2.1, hb.2.2, hk4, go_sem]; try (intro h; omega))
   ·exact fun h => absurd rfl h
   intro _ ph h1 h2
   obtain rfl : ph = true := h1 (by kernel_rfl)
   intro ev X hT hb hk hf
   exact OpOk.assign rfl (fX ev 23 hf.1) ⟨rfl, Stay.refl _⟩
  intro X hT
  rintro _ - _ - _ - _ - _ - _ - _ - _ - _ - _ - _ - _ - _ - _ - _ rfl
  have hX2 : (blk (w.heap.size + 1 + 1 + 1) (.cells P2 126 (0, 0)) * (blk (w.heap.size + 1 + 1) (.cells Z4 126 (0, 0)) * (blk (w.heap.size + 1) (.cells B4 126 (0, 0)) * (blk w.heap.size (.cells A4 126 (0, 0)) * all w)))).on X := hT.1
  have HX2 := hide hX2
  have HST := hide hT.2
  clear hT hX2
  go_wp2
  refine Rest.done ?_
  go_wp2
  refine ⟨⟨k + 1, by omega, by simp, by rw [Hbb2.out], by rw [← HP2.out]; exact HX2.out, HST.out⟩, by simp [intOf]; omega⟩
 obtain rfl : k = 4 := by omega
 have e4 : (qs 4 S).take 4 ++ (List.replicate 4 0).drop 4 = qs 4 S := by rw [List.take_of_length_le (by rw [qs_len]; omega)]; simp
 rw [e4] at HXk
 have gD := on_blk_mul HXk.out
 have gR := on_blk_mul HXk.out.right
 have HB2 := hide (all_below HXk.out.right.right.right.right HSk.out)
 have hzz : Z4.size = 4 := by rw [← HZ.out, q4_size]
 have hone := lvs_one (qs 4 S)
 have hzA : Z4.size = (q4 S).size := by rw [hzz, q4_size]
 rw [show lvs (qs 4 S) = q4 S from rfl] at gD hone
 generalize hD4 : q4 S = D4 at *
 have HD4 := hide hD4
 have Hfin := hide (show q4 (a + b) = D4 by rw [← HS.out, hD4])
 clear e4 hzz hD4 HXk
 generalize hcf : cAdd a b 4 = cf at *
 have Hcf := hide hcf
 clear hcf
 go_wp2_with (first
  | (refine wS gR HsR.out hzA hone ?_)
  | (refine wL gD hu HsR ?_))
 exact retT Tryz.results112 gR hu HsR.out rfl (lv cf) (by rw [Hfin.out, Hcf.out]) HB2.out (by omega)
def Tb (g n : Nat) (w : World) : Prop := ∀ i, i < 4 → w.cell? ⟨g, i, .none⟩ = some (lv (limb n i))
theorem Tb.below {g n : Nat} {w X : World} (h : Tb g n w) (hb : Below w.heap.size w X) : Tb g n X := fun i hi => (hb.cell (World.block_lt_of_cell? _ _ (h i hi))).trans (h i hi)
theorem Tb.part {g n : Nat} {w : World} (h : Tb g n w) : ∀ j v, (q4 n)[j]? = some v → w.cell? ⟨g, 0 + j, .none⟩ = some v := by
 intro j v hv
 have hj : j < 4 := by
  have := (Array.getElem?_eq_some_iff.1 hv).1
  rwa [q4_size] at this
 rw [Nat.zero_add, h j hj]
 have h2 := lvs_get _ j _ (qs_get 4 n j hj)
 exact h2.symm.trans hv
def E8 : Nat := 7237005577332262213973186563042994240829374041602535252466099000494570602494
def SqM : Nat := 19681161376707505956807079304988542015446066515923890162744021073123829784752
structure Tab5 (w : World) : Prop where
 m : Tb 6 P5 w
theorem Tab5.below {w X : World} (h : Tab5 w) (hb : Below w.heap.size w X) : Tab5 X := ⟨h.m.below hb⟩
structure TabR (w : World) : Prop where
 e : Tb 8 E8 w
 r : Tb 9 SqM w
theorem TabR.below {w X : World} (h : TabR w) (hb : Below w.heap.size w X) : TabR X := ⟨h.e.below hb, h.r.below hb⟩
theorem eInfo (n : Nat) : (Tryz.prog.info? 126).map (·.size) = some (q4 n).size := by rw [q4_size]; kernel_rfl
theorem eInfo4 (n : Nat) : (Tryz.prog.info? 51).map (·.size) = some (q4 n).size := by rw [q4_size]; kernel_rfl
theorem eZero (w : World) : (zeroValue 126).run Tryz.prog w = .ok (.agg (q4 0)) w := by rw [qz4]; kernel_rfl
theorem eSize (m n : Nat) : (q4 m).size = (q4 n).size := by rw [q4_size, q4_size]
theorem eOne (n : Nat) : (q4 n).all (·.oneCell') = true := lvs_one _
theorem eF (n : Nat) : Hid ((Tryz.prog.info? 126).map (·.size) = some (q4 n).size) ∧ Hid ((q4 n).all (·.oneCell') = true) ∧ Hid ((q4 0).size = (q4 n).size) := b3 (eInfo n) (eOne n) (eSize 0 n)
theorem st0 {Q : SP} {b : Nat} {c cs : Array Value} {t : TypeId} {w : World} (h : (blk b (.cells c t (0, 0)) * Q).on w) : (blk b (.cells cs t (0, 0)) * Q).on (w.setRow b cs) := h.setRow cs
theorem st1 {P Q : SP} {b : Nat} {c cs : Array Value} {t : TypeId} {w : World} (h : (P * (blk b (.cells c t (0, 0)) * Q)).on w) : (P * (blk b (.cells cs t (0, 0)) * Q)).on (w.setRow b cs) := by
 rw [SP.mul_left_comm] at h ⊢
 exact h.setRow cs
theorem P5_lt : P5 < 18446744073709551616 ^ 4 := by decide
theorem reduced_any (a : Nat) (ha : a < 18446744073709551616 ^ 4) (w : World) (hT : Tab5 w) :
  Calls Tryz.prog 97 #[.agg (q4 a)] w fun e w' => e = .returned (.agg (q4 (redP a))) ∧ Below w.heap.size w w' := by
 have hu := Tryz.underlying126
 have hz := eZero
 have h0 := ((on_all w).alloc (.cells (q4 (a)) 126)).alloc (.cells (q4 0) 126)
 have s0 := ((Str.refl w).alloc (.cells (q4 (a)) 126)).alloc (.cells (q4 0) 126)
 try simp only [World.size_alloc] at h0
 have H1 := hide h0
 have S1 := hide s0
 clear h0 s0
 have Hc := hide (fun X => less_any a P5 ha P5_lt X)
 have Hend := hide (br_end a P5 ha P5_lt)
 have Hq4 := hide (q4_sub a P5 ha)
 clear ha
 obtain ⟨HsA4, HoA4, HzA4⟩ := eF (a)
 obtain ⟨HsM4, HoM4, HzM4⟩ := eF (P5)
 obtain ⟨HsD4, HoD4, HzD4⟩ := eF (a + 18446744073709551616 ^ 4 - P5)
 generalize hA4 : q4 (a) = A4 at *
 have HA4 := hide hA4
 clear hA4
 generalize hM4 : q4 (P5) = M4 at *
 have HM4 := hide hM4
 clear hM4
 generalize hD4 : q4 (a + 18446744073709551616 ^ 4 - P5) = D4 at *
 have HD4 := hide hD4
 clear hD4
 generalize hZ4 : q4 0 = Z4 at *
 have HZ4 := hide hZ4
 clear hZ4
 go_enter Tryz.func97, Tryz.ntmps97
 have ht := (hT.below (all_below H1.out.right.right S1.out)).m.part
 rw [HM4.out] at ht
 have g0 := on_blk_mul H1.out
 have g1 := on_blk_mul H1.out.right
 go_wp2_with (first
  | (refine wL g1 hu HsA4 ?_)
  | (refine wpList_load_part rfl _ _ rfl 6 0 rfl M4 _ ht hu rfl HsM4 ?_))
 clear g0 g1
 clear ht
 generalize (w.alloc (.cells A4 126)).alloc (.cells Z4 126) = w1 at *
 refine (Hc.out _).mono ?_
 rintro e w2 ⟨rfl, hB⟩
 obtain ⟨H2, S2⟩ := nx H1.out S1.out hB
 clear hB H1 S1
 obtain ⟨gN, gM, H3, S3⟩ := newV H2.out S2.out Z4 D4 126
 by_cases hlo : a < P5
 ·have hbr : br a P5 4 = 1 := by rw [Hend.out, if_pos hlo]
  have HR := hide (show redP a = a by unfold redP; rw [if_pos hlo])
  rw [hbr]
  clear hlo hbr
  have gA := on_blk_mul H3.out.right.right
  have gR := on_blk_mul H3.out.right
  have HB := hide (all_below H3.out.right.right.right S3.out)
  go_wp2_with (first
   | (refine wS gN HsD4 HzD4 HoD4 ?_)
   | (refine wS gR HsA4 HzA4 HoA4 ?_)
   | (refine wL gA hu HsA4 ?_))
  exact retE Tryz.results97 gR hu HsA4.out rfl (by rw [HR.out, HA4.out]) HB.out (by omega)
 have hbr : br a P5 4 = 0 := by rw [Hend.out, if_neg hlo]
 have HR := hide (show redP a = a - P5 by unfold redP; rw [if_neg hlo])
 have HD := hide (show q4 (a - P5) = D4 by rw [← HD4.out]; exact (congrArg lvs (Hq4.out (by omega))).symm)
 rw [hbr]
 clear hlo hbr
 have gA := on_blk_mul H3.out.right.right
 have gR := on_blk_mul H3.out.right
 have HB := hide (all_below H3.out.right.right.right S3.out)
 go_wp2_with (first
  | (refine wS gN HsD4 HzD4 HoD4 ?_)
  | (refine wS gR HsD4 HzD4 HoD4 ?_)
  | (refine wL gM hu HsD4 ?_))
 exact retE Tryz.results97 gR hu HsD4.out rfl (by rw [HR.out, HD.out]) HB.out (by omega)
theorem plus_any (a b : Nat) (ha : a < P5) (hb : b < P5) (w : World) (hT : Tab5 w) :
  Calls Tryz.prog 111 #[.agg (q4 a), .agg (q4 b)] w fun e w' => e = .returned (.agg (q4 ((a + b) % P5))) ∧ Below w.heap.size w w' := by
 have h4 := P5_B
 have hu := Tryz.underlying126
 have hz := eZero
 have h0 := (((on_all w).alloc (.cells (q4 (a)) 126)).alloc (.cells (q4 (b)) 126)).alloc (.cells (q4 0) 126)
 have s0 := (((Str.refl w).alloc (.cells (q4 (a)) 126)).alloc (.cells (q4 (b)) 126)).alloc (.cells (q4 0) 126)
 try simp only [World.size_alloc] at h0
 have H1 := hide h0
 have S1 := hide s0
 clear h0 s0
 have Hc := hide (fun X => more_any a b (by omega) (by omega) X)
 have hr := redP_mod (a + b) (by omega)
 have Hd : Hid (∀ X, Tab5 X → Calls Tryz.prog 97 #[.agg (q4 (a + b))] X fun e w' => e = .returned (.agg (q4 ((a + b) % P5))) ∧ Below X.heap.size X w') := hide fun X h => by rw [← hr]; exact reduced_any (a + b) (by omega) X h
 clear hr h4 ha hb
 obtain ⟨HsA4, HoA4, HzA4⟩ := eF (a)
 obtain ⟨HsB4, HoB4, HzB4⟩ := eF (b)
 obtain ⟨HsM4, HoM4, HzM4⟩ := eF (a + b)
 obtain ⟨HsR4, HoR4, HzR4⟩ := b3 (eInfo ((a + b) % P5)) (eOne ((a + b) % P5)) (eSize 0 ((a + b) % P5))
 generalize hA4 : q4 (a) = A4 at *
 have HA4 := hide hA4
 clear hA4
 generalize hB4 : q4 (b) = B4 at *
 have HB4 := hide hB4
 clear hB4
 generalize hM4 : q4 (a + b) = M4 at *
 have HM4 := hide hM4
 clear hM4
 generalize hR4 : q4 ((a + b) % P5) = R4 at *
 have HR4 := hide hR4
 clear hR4
 generalize hZ4 : q4 0 = Z4 at *
 have HZ4 := hide hZ4
 clear hZ4
 go_enter Tryz.func111, Tryz.ntmps111
 have g0 := on_blk_mul H1.out
 have g1 := on_blk_mul H1.out.right
 have g2 := on_blk_mul H1.out.right.right
 go_wp2_with (first
  | (refine wL g1 hu HsB4 ?_)
  | (refine wL g2 hu HsA4 ?_))
 clear g0 g1 g2
 generalize ((w.alloc (.cells A4 126)).alloc (.cells B4 126)).alloc (.cells Z4 126) = w1 at *
 refine (Hc.out _).mono ?_
 rintro e w2 ⟨rfl, hB⟩
 obtain ⟨H2, S2⟩ := nx H1.out S1.out hB
 clear hB H1 S1
 obtain ⟨gN, gM, H3, S3⟩ := newV H2.out S2.out Z4 M4 126
 go_wp2_with (first
  | (refine wS gN HsM4 HzM4 HoM4 ?_)
  | (refine wL gM hu HsM4 ?_))
 generalize (w2.alloc (.cells Z4 126)).setRow w2.heap.size M4 = w3 at *
 clear gN gM H2 S2
 refine (Hd.out _ (hT.below (all_below H3.out.right.right.right.right S3.out))).mono ?_
 rintro e w4 ⟨rfl, hB⟩
 obtain ⟨H4, S4⟩ := nx H3.out S3.out hB
 clear hB H3 S3
 have gR := on_blk_mul H4.out.right
 have HB := hide (all_below H4.out.right.right.right.right S4.out)
 go_wp2_with (first
  | (refine wS gR HsR4 HzR4 HoR4 ?_))
 exact retR Tryz.results111 gR hu HsR4.out rfl HB.out (by omega)
theorem qs_add4 (n : Nat) : qs 4 (n + 18446744073709551616 ^ 4) = qs 4 n := by
 unfold qs
 apply List.map_congr_left
 intro i hi
 exact limb_low _ _ 4 i (by rw [Nat.add_mod_right]) (List.mem_range.1 hi)
theorem sub_any (a b : Nat) (ha : a < P5) (hb : b < P5) (w : World) (hT : Tab5 w) :
  Calls Tryz.prog 101 #[.agg (q4 a), .agg (q4 b)] w fun e w' => e = .returned (.agg (q4 ((a + (P5 - b)) % P5))) ∧ Below w.heap.size w w' := by
 have h4 := P5_B
 have hu := Tryz.underlying126
 have hz := eZero
 have h0 := (((on_all w).alloc (.cells (q4 (a)) 126)).alloc (.cells (q4 (b)) 126)).alloc (.cells (q4 0) 126)
 have s0 := (((Str.refl w).alloc (.cells (q4 (a)) 126)).alloc (.cells (q4 (b)) 126)).alloc (.cells (q4 0) 126)
 try simp only [World.size_alloc] at h0
 have H1 := hide h0
 have S1 := hide s0
 clear h0 s0
 have Hc := hide (fun X => less_any a b (by omega) (by omega) X)
 have Hend := hide (br_end a b (by omega) (by omega))
 have Hr1 := hide (show b ≤ a → q4 (a + 18446744073709551616 ^ 4 - b) = q4 ((a + (P5 - b)) % P5) from fun h => by
  rw [show (a + (P5 - b)) % P5 = a - b by rw [show a + (P5 - b) = (a - b) + P5 by omega, Nat.add_mod_right, Nat.mod_eq_of_lt (by omega)]]
  exact congrArg lvs (q4_sub a b (by omega) h))
 have Hr2 := hide (show a < b → q4 (a + 18446744073709551616 ^ 4 - b + P5) = q4 ((a + (P5 - b)) % P5) from fun h => by
  rw [show (a + (P5 - b)) % P5 = a + (P5 - b) from Nat.mod_eq_of_lt (by omega), show a + 18446744073709551616 ^ 4 - b + P5 = (a + (P5 - b)) + 18446744073709551616 ^ 4 by omega]
  exact congrArg lvs (qs_add4 _))
 have Hd : Hid (∀ X, a < b → Calls Tryz.prog 112 #[.agg (q4 (a + 18446744073709551616 ^ 4 - b)), .agg (q4 P5)] X fun e w' => (∃ c, e = .returned (.tuple #[.agg (q4 (a + 18446744073709551616 ^ 4 - b + P5)), c])) ∧ Below X.heap.size X w') := hide fun X h => (more_any (a + 18446744073709551616 ^ 4 - b) P5 (by omega) P5_lt X).mono fun e w' h => ⟨⟨_, h.1⟩, h.2⟩
 clear h4 ha hb
 obtain ⟨HsA4, HoA4, HzA4⟩ := eF (a)
 obtain ⟨HsB4, HoB4, HzB4⟩ := eF (b)
 obtain ⟨HsD4, HoD4, HzD4⟩ := eF (a + 18446744073709551616 ^ 4 - b)
 obtain ⟨HsM4, HoM4, HzM4⟩ := eF (P5)
 obtain ⟨HsR4, HoR4, HzR4⟩ := eF (a + 18446744073709551616 ^ 4 - b + P5)
 generalize hA4 : q4 (a) = A4 at *
 have HA4 := hide hA4
 clear hA4
 generalize hB4 : q4 (b) = B4 at *
 have HB4 := hide hB4
 clear hB4
 generalize hD4 : q4 (a + 18446744073709551616 ^ 4 - b) = D4 at *
 have HD4 := hide hD4
 clear hD4
 generalize hM4 : q4 (P5) = M4 at *
 have HM4 := hide hM4
 clear hM4
 generalize hR4 : q4 (a + 18446744073709551616 ^ 4 - b + P5) = R4 at *
 have HR4 := hide hR4
 clear hR4
 generalize hZ4 : q4 0 = Z4 at *
 have HZ4 := hide hZ4
 clear hZ4
 go_enter Tryz.func101, Tryz.ntmps101
 have g0 := on_blk_mul H1.out
 have g1 := on_blk_mul H1.out.right
 have g2 := on_blk_mul H1.out.right.right
 go_wp2_with (first
  | (refine wL g1 hu HsB4 ?_)
  | (refine wL g2 hu HsA4 ?_))
 clear g0 g1 g2
 generalize ((w.alloc (.cells A4 126)).alloc (.cells B4 126)).alloc (.cells Z4 126) = w1 at *
 refine (Hc.out _).mono ?_
 rintro e w2 ⟨rfl, hB⟩
 obtain ⟨H2, S2⟩ := nx H1.out S1.out hB
 clear hB H1 S1
 obtain ⟨gN, gM, H3, S3⟩ := newV H2.out S2.out Z4 D4 126
 by_cases hlo : a < b
 ·have hbr : br a b 4 = 1 := by rw [Hend.out, if_pos hlo]
  have HR := hide (Hr2.out hlo)
  rw [hbr]
  have ht := (hT.below (all_below H3.out.right.right.right.right S3.out)).m.part
  rw [HM4.out] at ht
  have Hd2 := hide (fun X => Hd.out X hlo)
  clear hlo hbr
  go_wp2_with (first
   | (refine wS gN HsD4 HzD4 HoD4 ?_)
   | (refine wL gM hu HsD4 ?_)
   | (refine wpList_load_part rfl _ _ rfl 6 0 rfl M4 _ ht hu rfl HsM4 ?_))
  clear ht
  generalize (w2.alloc (.cells Z4 126)).setRow w2.heap.size D4 = w3 at *
  clear gN gM H2 S2
  refine (Hd2.out _).mono ?_
  rintro e w4 ⟨⟨c, rfl⟩, hB⟩
  obtain ⟨H4, S4⟩ := nx H3.out S3.out hB
  clear hB H3 S3
  have H5 := hide (st0 H4.out (cs := R4))
  have S5 := hide (S4.out.setRow (w2.heap.size) R4)
  have gW := on_blk_mul H4.out
  have gW2 := on_blk_mul H5.out
  have gR := on_blk_mul H5.out.right
  have HB := hide (all_below H5.out.right.right.right.right S5.out)
  go_wp2_with (first
   | (refine wS gW HsR4.out (HzD4.out.symm.trans HzR4.out) HoR4.out ?_)
   | (refine wL gW2 hu HsR4 ?_)
   | (refine wS gR HsR4 HzR4 HoR4 ?_))
  exact retE Tryz.results101 gR hu HsR4.out rfl (by rw [← HR.out]) HB.out (by omega)
 have hbr : br a b 4 = 0 := by rw [Hend.out, if_neg hlo]
 have HR := hide (Hr1.out (by omega))
 rw [hbr]
 clear hlo hbr
 have gR := on_blk_mul H3.out.right
 have HB := hide (all_below H3.out.right.right.right.right S3.out)
 go_wp2_with (first
  | (refine wS gN HsD4 HzD4 HoD4 ?_)
  | (refine wL gM hu HsD4 ?_)
  | (refine wS gR HsD4 HzD4 HoD4 ?_))
 exact retE Tryz.results101 gR hu HsD4.out rfl (by rw [← HR.out]) HB.out (by omega)
theorem bz4 {ops : Array Oper} {rest : List Oper} {o : Oper} {a : Act} {w : World} {Q : Exit → Act → World → Prop} (hw : Region.wanted o (yielded ops a.tmps) = true)
  (ho : o.op = .build 126 #[]) (Z : Array Value) (hZ : q4 0 = Z)
  (hk : wpList Tryz.prog ops Q rest (a.put o.dst (.agg Z)) w) : wpList Tryz.prog ops Q (o :: rest) a w := by
 have hb0 : ∀ w, (Instr.build 126 #[]).run Tryz.prog w = .ok (.agg Z) w := fun w => by rw [← hZ, qz4]; kernel_rfl
 have hr : (execOp a.eval o).run Tryz.prog w = .ok (.value (.agg Z)) w := by
  unfold execOp
  rw [ho]
  simp only [List.map_toArray, List.map_nil]
  rw [Sem.run_bind, hb0]
  rfl
 exact wpList_step fun _ hK => by
  rw [if_pos hw]
  unfold Oper.wp
  simp only [hr]
  exact hK _ _ hk
theorem q4_small (c : Nat) (hc : c < 18446744073709551616) : q4 c = #[.int .u64 (c : Int), .int .u64 0, .int .u64 0, .int .u64 0] := by
 have h : qs 4 c = [c, 0, 0, 0] := by
  unfold qs
  rw [show List.range 4 = [0, 1, 2, 3] from rfl]
  simp only [List.map_cons, List.map_nil, limb, Nat.reducePow, Nat.pow_zero, Nat.div_one]
  rw [Nat.mod_eq_of_lt hc, Nat.div_eq_of_lt hc, Nat.div_eq_of_lt (by omega), Nat.div_eq_of_lt (by omega)]
 rw [show q4 c = lvs (qs 4 c) from rfl, h]; rfl
theorem bn4 {ops : Array Oper} {rest : List Oper} {o : Oper} {a : Act} {w : World} {Q : Exit → Act → World → Prop} (hw : Region.wanted o (yielded ops a.tmps) = true) (x : Operand)
  (ho : o.op = .build 126 #[(0, x)]) (c : Nat) (hx : a.eval x = lv c) (hc : c < 18446744073709551616) (Z : Array Value) (hZ : q4 c = Z)
  (hk : wpList Tryz.prog ops Q rest (a.put o.dst (.agg Z)) w) : wpList Tryz.prog ops Q (o :: rest) a w := by
 have hb0 : ∀ w, (Instr.build 126 #[(0, lv c)]).run Tryz.prog w = .ok (.agg Z) w := fun w => by rw [← hZ, q4_small c hc]; kernel_rfl
 have hr : (execOp a.eval o).run Tryz.prog w = .ok (.value (.agg Z)) w := by
  unfold execOp
  rw [ho]
  simp only [List.map_toArray, List.map_cons, List.map_nil, hx]
  rw [Sem.run_bind, hb0]
  rfl
 exact wpList_step fun _ hK => by
  rw [if_pos hw]
  unfold Oper.wp
  simp only [hr]
  exact hK _ _ hk
theorem neg_any (a : Nat) (ha : a < P5) (w : World) (hT : Tab5 w) :
  Calls Tryz.prog 87 #[.agg (q4 a)] w fun e w' => e = .returned (.agg (q4 ((P5 - a) % P5))) ∧ Below w.heap.size w w' := by
 have hu := Tryz.underlying126
 have hz := eZero
 have h0 := ((on_all w).alloc (.cells (q4 (a)) 126)).alloc (.cells (q4 0) 126)
 have s0 := ((Str.refl w).alloc (.cells (q4 (a)) 126)).alloc (.cells (q4 0) 126)
 try simp only [World.size_alloc] at h0
 have H1 := hide h0
 have S1 := hide s0
 clear h0 s0
 have Hc : Hid (∀ X, Tab5 X → Calls Tryz.prog 101 #[.agg (q4 0), .agg (q4 a)] X fun e w' => e = .returned (.agg (q4 ((P5 - a) % P5))) ∧ Below X.heap.size X w') := hide fun X h => by
  have := sub_any 0 a P5_pos ha X h
  rwa [Nat.zero_add] at this
 clear ha
 obtain ⟨HsA4, HoA4, HzA4⟩ := eF (a)
 obtain ⟨HsR4, HoR4, HzR4⟩ := b3 (eInfo ((P5 - a) % P5)) (eOne ((P5 - a) % P5)) (eSize 0 ((P5 - a) % P5))
 generalize hA4 : q4 (a) = A4 at *
 have HA4 := hide hA4
 clear hA4
 generalize hR4 : q4 ((P5 - a) % P5) = R4 at *
 have HR4 := hide hR4
 clear hR4
 generalize hZ4 : q4 0 = Z4 at *
 have HZ4 := hide hZ4
 clear hZ4
 go_enter Tryz.func87, Tryz.ntmps87
 have g0 := on_blk_mul H1.out
 have g1 := on_blk_mul H1.out.right
 go_wp2_with (first
  | (refine bz4 rfl rfl Z4 HZ4.out ?_)
  | (refine wL g1 hu HsA4 ?_))
 clear g0 g1
 generalize (w.alloc (.cells A4 126)).alloc (.cells Z4 126) = w1 at *
 refine (Hc.out _ (hT.below (all_below H1.out.right.right S1.out))).mono ?_
 rintro e w2 ⟨rfl, hB⟩
 obtain ⟨H2, S2⟩ := nx H1.out S1.out hB
 clear hB H1 S1
 have gR := on_blk_mul H2.out
 have HB := hide (all_below H2.out.right.right S2.out)
 go_wp2_with (first
  | (refine wS gR HsR4 HzR4 HoR4 ?_))
 exact retR Tryz.results87 gR hu HsR4.out rfl HB.out (by omega)
theorem small_any (n : Nat) (hn : n < 18446744073709551616) (w : World) :
  Calls Tryz.prog 98 #[lv n] w fun e w' => e = .returned (.agg (q4 n)) ∧ Below w.heap.size w w' := by
 have hu := Tryz.underlying126
 have hz := eZero
 have h0 := (on_all w).alloc (.cells (q4 0) 126)
 have s0 := (Str.refl w).alloc (.cells (q4 0) 126)
 try simp only [World.size_alloc] at h0
 have H1 := hide h0
 have S1 := hide s0
 clear h0 s0
 obtain ⟨HsR4, HoR4, HzR4⟩ := eF (n)
 generalize hR4 : q4 (n) = R4 at *
 have HR4 := hide hR4
 clear hR4
 generalize hZ4 : q4 0 = Z4 at *
 have HZ4 := hide hZ4
 clear hZ4
 go_enter Tryz.func98, Tryz.ntmps98
 have gR := on_blk_mul H1.out
 have HB := hide (all_below H1.out.right S1.out)
 go_wp2_with (first
  | (refine bn4 rfl _ rfl n rfl hn R4 HR4.out ?_)
  | (refine wS gR HsR4 HzR4 HoR4 ?_))
 exact retR Tryz.results98 gR hu HsR4.out rfl HB.out (by omega)
theorem odd_any (a : Nat) (w : World) :
  Calls Tryz.prog 114 #[.agg (q4 a)] w fun e w' => e = .returned (.bool (decide (a % 2 = 1))) ∧ Below w.heap.size w w' := by
 have hB := (Below.refl w.heap.size w).alloc (Nat.le_refl _) (.cells (q4 a) 126)
 have hg := heap_alloc_new w (.cells (q4 a) 126)
 have hc : (w.alloc (.cells (q4 a) 126)).cell? ⟨w.heap.size, 0, .none⟩ = some (lv (limb a 0)) := (cell_of_row _ w.heap.size 0 _ _ _ hg).trans (lvs_get _ _ _ (qs_get 4 a 0 (by omega)))
 have hb := bits_and_u64_nat (limb a 0) 1 (limb_lt a 0) (by omega)
 have h2 : limb a 0 % 2 = a % 2 := by unfold limb; rw [Nat.pow_zero, Nat.div_one]; omega
 rw [Nat.and_one_is_mod, h2, show ((1 : Nat) : Int) = 1 from rfl] at hb
 have ht : (((a % 2 : Nat) : Int) == 1) = decide (a % 2 = 1) := by
  rw [Bool.eq_iff_iff, beq_iff_eq, decide_eq_true_eq]; omega
 rw [← hb] at ht
 have Ht := hide ht
 clear ht hb h2
 generalize hA : q4 a = A4 at *
 generalize limb a 0 = x at *
 go_enter Tryz.func114, Tryz.ntmps114
 go_wp2
 rw [Ht.out]
 go_ret
 exact ⟨rfl, hB⟩
theorem grown_any (x y c d : Nat) (hx : x < 18446744073709551616) (hy : y < 18446744073709551616) (hc : c < 18446744073709551616) (hd : d < 18446744073709551616) (w : World) :
  Calls Tryz.prog 118 #[lv x, lv y, lv c, lv d] w fun e w' => e = .returned (.tuple #[lv ((x * y + c + d) / 18446744073709551616), lv ((x * y + c + d) % 18446744073709551616)]) ∧ w' = w := by
 obtain ⟨b1, b2, b3, b4⟩ := grown_num x y c d hx hy hc hd
 have c1 := mul64_any x y hx hy
 have HB3 := hide b3
 have HB4 := hide b4
 clear b3 b4
 have hh : x * y / 18446744073709551616 < 18446744073709551616 := by omega
 generalize (x * y + c + d) / 18446744073709551616 = rh at *
 generalize (x * y + c + d) % 18446744073709551616 = rl at *
 generalize x * y / 18446744073709551616 = hi at *
 have hl : x * y % 18446744073709551616 < 18446744073709551616 := Nat.mod_lt _ (by decide)
 generalize x * y % 18446744073709551616 = lo at *
 have h1 := fun X => add64_run0 lo c X
 generalize (lo + c) % 18446744073709551616 = l1 at *
 generalize (lo + c) / 18446744073709551616 = k1 at *
 have h2 := fun X => add64_run0 l1 d X
 generalize (l1 + d) % 18446744073709551616 = l2 at *
 generalize (l1 + d) / 18446744073709551616 = k2 at *
 have H1 := hide h1
 have H2 := hide h2
 have W1 := hide (wrapS _ b1)
 have W2 := hide (wrapS _ b2)
 clear h1 h2
 go_enter Tryz.func118, Tryz.ntmps118
 go_wp2_with fail
 refine (c1 _).mono ?_
 rintro e w' ⟨rfl, rfl⟩
 go_wp2_with fail
 rw [H1.out]
 simp only [Oper.upon]
 go_wp2_with fail
 rw [H2.out]
 simp only [Oper.upon]
 go_wp2_with fail
 have q1 : (hi : Int) + (k1 : Int) + (k2 : Int) = ((rh : Nat) : Int) := by rw [← HB4.out]; simp
 rw [q1, HB3.out]
 go_ret2
 exact ⟨rfl, rfl⟩
theorem wide_any (a b : Nat) (ha : a < 18446744073709551616 ^ 4) (hb : b < 18446744073709551616 ^ 4) (w : World) :
  Calls Tryz.prog 117 #[.agg (q4 a), .agg (q4 b)] w fun e w' => e = .returned (.agg (q8 (a * b))) ∧ Below w.heap.size w w' := by
 have hu := Tryz.underlying126
 have hu6 := Tryz.underlying50
 have hu8 := Tryz.underlying172
 have hz : ∀ w, (zeroValue 126).run Tryz.prog w = .ok (.agg (q4 0)) w := fun w => by rw [qz4]; kernel_rfl
 have hz8 : ∀ w, (zeroValue 172).run Tryz.prog w = .ok (.agg (q8 0)) w := fun w => by kernel_rfl
 have Hs : ∀ n, (Tryz.prog.info? 126).map (·.size) = some (q4 n).size := fun n => by rw [q4_size]; kernel_rfl
 have HsA := hide (Hs a)
 have HsB := hide (Hs b)
 have HsR : Hid ((Tryz.prog.info? 172).map (·.size) = some (q8 (a * b)).size) := hide (by rw [q8_size]; kernel_rfl)
 have h0 := ((((on_all w).alloc (.cells (q4 a) 126)).alloc (.cells (q4 b) 126)).alloc (.cells (q8 0) 172)).alloc (.cells (q8 0) 172)
 have hs0 := ((((Str.refl w).alloc (.cells (q4 a) 126)).alloc (.cells (q4 b) 126)).alloc (.cells (q8 0) 172)).alloc (.cells (q8 0) 172)
 simp only [World.size_alloc] at h0
 have H0 := hide h0
 have HS0 := hide hs0
 have Ha := hide ha
 have Hb := hide hb
 clear h0 hs0 ha hb Hs
 generalize hA : q4 a = A4 at *
 generalize hB : q4 b = B4 at *
 generalize hZ8 : q8 0 = Z8 at *
 have HA := hide hA
 have HB := hide hB
 have HZ8 := hide hZ8
 clear hA hB hZ8
 have gA := on_blk_mul H0.out.right.right.right
 have Hia : Hid (∀ (X : World) (k : Nat), k < 4 → (Instr.index 126 (.agg A4) (.int .i64 (k : Int))).run Tryz.prog X = .ok (lv (limb a k)) X) := hide fun X k hk => run_index_one X 126 50 4 A4 k (lv (limb a k)) .u64 hu hu6 (by kernel_rfl) hk (by rw [← HA.out]; exact lvs_get _ k _ (qs_get 4 a k hk))
 have Hib : Hid (∀ (X : World) (k : Nat), k < 4 → (Instr.index 126 (.agg B4) (.int .i64 (k : Int))).run Tryz.prog X = .ok (lv (limb b k)) X) := hide fun X k hk => run_index_one X 126 50 4 B4 k (lv (limb b k)) .u64 hu hu6 (by kernel_rfl) hk (by rw [← HB.out]; exact lvs_get _ k _ (qs_get 4 b k hk))
 go_enter Tryz.func117, Tryz.ntmps117
 go_wp2_with (refine wL gA hu HsA ?_)
 generalize (((w.alloc (.cells A4 126)).alloc (.cells B4 126)).alloc (.cells Z8 172)).alloc (.cells Z8 172) = w1 at *
 go_loopw [12] (fun i wr => ∃ k : Nat, k ≤ 4 ∧ i = .int .i64 k ∧ (blk (w.heap.size + 1 + 1 + 1) (.cells (q8 (pMul a b k)) 172 (0, 0)) * (blk (w.heap.size + 1 + 1) (.cells Z8 172 (0, 0)) * (blk (w.heap.size + 1) (.cells B4 126 (0, 0)) * (blk w.heap.size (.cells A4 126 (0, 0)) * all w)))).on wr ∧ Str w wr) (fun i _ => 4 - (intOf i).toNat)
 case atStart =>
  refine ⟨0, by omega, rfl, ?_, HS0.out⟩
  rw [pMul_0, HZ8.out]
  exact H0.out
 obtain ⟨k, hk, rfl, hX, hS2⟩ := hrel
 have HXk := hide hX
 have HSk := hide hS2
 clear hX hS2 H0 HS0 gA
 by_cases hlt : k < 4
 ·have hia := Hia.out wr k hlt
  have gB := on_blk_mul HXk.out.right.right
  go_wp2_with (refine wL gB hu HsB ?_)
  go_loopw [8, 17] (fun ov j wr => ∃ m : Nat, m ≤ 4 ∧ j = .int .i64 m ∧ ov = lv (oMul (pMul a b k) (limb a k) b k m) ∧ (blk (w.heap.size + 1 + 1 + 1) (.cells (lvs (wMid a b k m)) 172 (0, 0)) * (blk (w.heap.size + 1 + 1) (.cells Z8 172 (0, 0)) * (blk (w.heap.size + 1) (.cells B4 126 (0, 0)) * (blk w.heap.size (.cells A4 126 (0, 0)) * all w)))).on wr ∧ Str w wr) (fun _ j _ => 4 - (intOf j).toNat)
  case atStart =>
   refine ⟨0, by omega, rfl, by rw [oMul_0]; rfl, ?_, HSk.out⟩
   rw [wMid_0 a b k (by omega)]
   exact HXk.out
  obtain ⟨m, hm, rfl, rfl, hX, hS2⟩ := hrel
  have HXm := hide hX
  have HSm := hide hS2
  clear hX hS2 HXk HSk hia gB
  by_cases hlm : m < 4
  ·have hib := Hib.out wr m hlm
   have hkm : k + m < 8 := by omega
   have hcell := (cell_of_row wr (w.heap.size + 1 + 1 + 1) (k + m) _ _ _ (on_blk_mul HXm.out)).trans (lvs_get _ _ _ (wMid_get a b k m hkm))
   have hfr := frozen_of_row wr (w.heap.size + 1 + 1 + 1) (k + m) _ _ (on_blk_mul HXm.out)
   have hset := SP.on.setCell (i := k + m) HXm.out (lv (limb (uMul (pMul a b k) (limb a k) b k (m + 1)) (k + m)))
   rw [lvs_set, wMid_set a b k m hkm] at hset
   have HN := hide hset
   have Hg := hide (fun X => grown_any (limb a k) (limb b m) (limb (pMul a b k) (k + m)) (oMul (pMul a b k) (limb a k) b k m) (limb_lt _ _) (limb_lt _ _) (limb_lt _ _) (oMul_lt _ _ _ _ _ (limb_lt _ _)) X)
   rw [← oMul_step, ← uMul_limb] at Hg
   have hm4 : (m : Int) < 4 := by omega
   have s1 : IntKind.i64.wrap ((k : Int) + (m : Int)) = ((k + m : Nat) : Int) := by rw [IntWalk.i64_in _ (by omega)]; omega
   have hkm8 : ((k + m : Nat) : Int) < 8 := by omega
   clear hset HXm
   generalize limb a k = x at *
   generalize limb b m = y at *
   generalize limb (pMul a b k) (k + m) = c at *
   generalize oMul (pMul a b k) x b k m = d at *
   generalize limb (uMul (pMul a b k) x b k (m + 1)) (k + m) = lo at *
   generalize hhi : oMul (pMul a b k) x b k (m + 1) = hi at *
   have Hhi := hide hhi
   clear hhi
   go_wp2_with fail
   refine (Hg.out _).mono ?_
   rintro e w' ⟨rfl, rfl⟩
   go_wp2_with fail
   refine ⟨⟨m + 1, by omega, by simp, by rw [Hhi.out], HN.out, HSm.out.setCell _ _⟩, by simp [intOf]; omega⟩
  obtain rfl : m = 4 := by omega
  have hk8 : k + 4 < 8 := by omega
  have hwl := wMid_len a b k 4 (by omega)
  obtain ⟨old, hcell⟩ : ∃ v, wr.cell? ⟨w.heap.size + 1 + 1 + 1, k + 4, .none⟩ = some v := ⟨_, (cell_of_row wr (w.heap.size + 1 + 1 + 1) (k + 4) _ _ _ (on_blk_mul HXm.out)).trans (lvs_get _ (k + 4) (wMid a b k 4)[k + 4] (List.getElem?_eq_getElem (by omega)))⟩
  have hfr := frozen_of_row wr (w.heap.size + 1 + 1 + 1) (k + 4) _ _ (on_blk_mul HXm.out)
  have hset := SP.on.setCell (i := k + 4) HXm.out (lv (oMul (pMul a b k) (limb a k) b k 4))
  rw [lvs_set, wMid_4 a b k hlt Hb.out] at hset
  have HN := hide hset
  have s1 : IntKind.i64.wrap ((k : Int) + 4) = ((k + 4 : Nat) : Int) := by rw [IntWalk.i64_in _ (by omega)]; omega
  have hkm8 : ((k + 4 : Nat) : Int) < 8 := by omega
  clear hset HXm hwl
  generalize oMul (pMul a b k) (limb a k) b k 4 = d at *
  go_wp2
  refine ⟨⟨k + 1, by omega, by simp, HN.out, HSm.out.setCell _ _⟩, by simp [intOf]; omega⟩
 obtain rfl : k = 4 := by omega
 have hp : pMul a b 4 = a * b := by unfold pMul; rw [Nat.mod_eq_of_lt Ha.out]
 rw [hp] at HXk
 have HBw := hide (all_below HXk.out.right.right.right.right HSk.out)
 have g8 := on_blk_mul HXk.out
 have gR := on_blk_mul HXk.out.right
 have hone : (q8 (a * b)).all (·.oneCell') = true := lvs_one _
 have hza : Z8.size = (q8 (a * b)).size := by rw [← HZ8.out, q8_size, q8_size]
 clear hp HXk
 generalize hR8 : q8 (a * b) = R8 at *
 have HR8 := hide hR8
 clear hR8
 go_wp2_with (first
  | (refine wS gR HsR.out hza hone ?_)
  | (refine wL g8 hu8 HsR ?_))
 exact retE Tryz.results117 gR hu8 HsR.out rfl (by rw [HR8.out]) HBw.out (by omega)
/-! a number and thirty-eight times another one, limb by limb -/
def tO (W H k : Nat) : Nat := (W % 18446744073709551616 ^ k + 38 * (H % 18446744073709551616 ^ k)) / 18446744073709551616 ^ k
theorem tO_0 (W H : Nat) : tO W H 0 = 0 := by simp [tO, Nat.mod_one]
theorem tO_le (W H k : Nat) : tO W H k ≤ 38 := by
 unfold tO
 have h1 := Nat.mod_lt W (pB k)
 have h2 := Nat.mod_lt H (pB k)
 have : (W % 18446744073709551616 ^ k + 38 * (H % 18446744073709551616 ^ k)) / 18446744073709551616 ^ k < 39 := by
  rw [Nat.div_lt_iff_lt_mul (pB k)]; omega
 omega
theorem tO_eq (W H k : Nat) : (W + 38 * H) / 18446744073709551616 ^ k = tO W H k + (W / 18446744073709551616 ^ k + 38 * (H / 18446744073709551616 ^ k)) := by
 unfold tO
 generalize hM : 18446744073709551616 ^ k = M
 have hp : 0 < M := hM ▸ pB k
 conv => lhs; rw [← Nat.mod_add_div W M, ← Nat.mod_add_div H M]
 rw [show W % M + M * (W / M) + 38 * (H % M + M * (H / M)) = (W % M + 38 * (H % M)) + M * (W / M + 38 * (H / M)) by
  rw [Nat.mul_add M, Nat.mul_left_comm M 38]; omega]
 rw [Nat.add_mul_div_left _ _ hp]
theorem tO_limb (W H k : Nat) : limb (W + 38 * H) k = (limb H k * 38 + limb W k + tO W H k) % 18446744073709551616 := by
 unfold limb; rw [tO_eq]; omega
theorem tO_step (W H k : Nat) : tO W H (k + 1) = (limb H k * 38 + limb W k + tO W H k) / 18446744073709551616 := by
 have h : tO W H (k + 1) = (W % 18446744073709551616 ^ k + 38 * (H % 18446744073709551616 ^ k) + 18446744073709551616 ^ k * (limb W k + 38 * limb H k)) / 18446744073709551616 ^ (k + 1) := by
  unfold tO; rw [mod_limb, mod_limb, Nat.mul_add (18446744073709551616 ^ k), Nat.mul_left_comm (18446744073709551616 ^ k) 38]; congr 1; omega
 rw [h, Nat.pow_succ, ← Nat.div_div_eq_div_mul, Nat.add_mul_div_left _ _ (pB k)]
 unfold tO; congr 1; omega
theorem limb_hi (n k : Nat) : limb n (k + 4) = limb (n / 18446744073709551616 ^ 4) k := by
 unfold limb; rw [Nat.div_div_eq_div_mul, ← Nat.pow_add, Nat.add_comm 4 k]
theorem limb_lo (n k : Nat) (h : k < 4) : limb n k = limb (n % 18446744073709551616 ^ 4) k := limb_low _ _ 4 k (by rw [Nat.mod_mod]) h
theorem fold_times (a b : Nat) (ha : a < 18446744073709551616 ^ 4) (hb : b < 18446744073709551616 ^ 4) :
  let S := a * b % 18446744073709551616 ^ 4 + 38 * (a * b / 18446744073709551616 ^ 4)
  S / 18446744073709551616 ^ 4 ≤ 38 ∧ redP (fold5 S) = a * b % P5 ∧ fold5 S < 18446744073709551616 ^ 4 := by
 intro S
 have hM : (18446744073709551616 : Nat) ^ 4 = 2 * P5 + 38 := by decide +kernel
 have h255 := P5_255
 have h2 : a * b / 18446744073709551616 ^ 4 < 18446744073709551616 ^ 4 := by
  rw [Nat.div_lt_iff_lt_mul (pB 4)]; exact Nat.mul_lt_mul'' ha hb
 have h1 : a * b % 18446744073709551616 ^ 4 < 18446744073709551616 ^ 4 := Nat.mod_lt _ (pB 4)
 have hS : S < 39 * 18446744073709551616 ^ 4 := by show _ + 38 * _ < _; omega
 have hq : S / 2 ^ 255 < 78 := by
  rw [Nat.div_lt_iff_lt_mul (by decide)]
  have : 39 * 18446744073709551616 ^ 4 = 78 * 2 ^ 255 := by decide +kernel
  omega
 have hr : S % 2 ^ 255 < 2 ^ 255 := Nat.mod_lt _ (by decide)
 have hP : 3000 < P5 := by decide
 have hf : fold5 S < 2 * P5 := by unfold fold5; omega
 refine ⟨?_, ?_, by omega⟩
 ·have : S / 18446744073709551616 ^ 4 < 39 := by rw [Nat.div_lt_iff_lt_mul (pB 4)]; exact hS
  omega
 rw [redP_mod _ hf, fold5_mod]
 have e := Nat.mod_add_div (a * b) (18446744073709551616 ^ 4)
 show (a * b % 18446744073709551616 ^ 4 + 38 * (a * b / 18446744073709551616 ^ 4)) % P5 = _
 conv => rhs; rw [← e]
 generalize a * b / 18446744073709551616 ^ 4 = q
 generalize a * b % 18446744073709551616 ^ 4 = r
 rw [hM, Nat.add_mul, Nat.mul_assoc 2, Nat.mul_left_comm 2 P5, Nat.add_comm (P5 * _), ← Nat.add_assoc, Nat.add_mul_mod_self_left]
theorem or_low (o x : Nat) (hx : x < 2) : (2 * o ||| x) = 2 * o + x := by
 have := Nat.two_pow_add_eq_or_of_lt (i := 1) (b := x) (by omega) o
 rw [Nat.pow_one] at this
 exact this.symm
theorem andNot_top (x : Nat) (hx : x < 18446744073709551616) : bits .andNot .u64 (x : Int) 9223372036854775808 = ((x % 9223372036854775808 : Nat) : Int) := by
 have h1 : (BitVec.ofInt 64 (x : Int)).toNat = x := by
  rw [BitVec.ofInt_natCast, BitVec.toNat_ofNat]; exact Nat.mod_eq_of_lt (by omega)
 have h2 : (~~~(BitVec.ofInt 64 9223372036854775808)).toNat = 2 ^ 63 - 1 := by decide
 show IntKind.u64.wrap ((BitVec.ofInt 64 (x : Int) &&& ~~~(BitVec.ofInt 64 9223372036854775808)).toNat : Int) = _
 rw [BitVec.toNat_and, h1, h2, Nat.and_two_pow_sub_one_eq_mod, IntKind.wrap_u64]
 omega
theorem limb3_div (a : Nat) (ha : a < 18446744073709551616 ^ 4) : limb a 3 / 9223372036854775808 = a / 2 ^ 255 := by
 unfold limb
 rw [Nat.mod_eq_of_lt (by rw [Nat.div_lt_iff_lt_mul (pB 3), ← Nat.pow_succ']; exact ha), Nat.div_div_eq_div_mul, show 18446744073709551616 ^ 3 * 9223372036854775808 = 2 ^ 255 by decide +kernel]
theorem limb3_mod (a : Nat) (ha : a < 18446744073709551616 ^ 4) : (qs 4 a).set 3 (limb a 3 % 9223372036854775808) = qs 4 (a % 2 ^ 255) := by
 have e : (2 : Nat) ^ 255 = 18446744073709551616 ^ 3 * 9223372036854775808 := by decide +kernel
 refine List.ext_getElem? fun j => ?_
 by_cases hj : j < 4
 ·rw [qs_get 4 _ j hj]
  by_cases h3 : j = 3
  ·subst h3
   rw [List.getElem?_set_self (by rw [qs_len]; decide)]
   unfold limb
   rw [Nat.mod_eq_of_lt (a := a / 18446744073709551616 ^ 3) (by rw [Nat.div_lt_iff_lt_mul (pB 3), ← Nat.pow_succ']; exact ha), e, Nat.mod_mul_right_div_self]
   congr 1
   have := Nat.mod_lt (a / 18446744073709551616 ^ 3) (show 0 < 9223372036854775808 by decide)
   omega
  rw [List.getElem?_set_ne (by omega), qs_get 4 _ j hj]
  refine congrArg some (limb_low _ _ 3 j ?_ (by omega))
  rw [e, Nat.mod_mul_right_mod]
 rw [List.getElem?_eq_none (by rw [List.length_set, qs_len]; omega), List.getElem?_eq_none (by rw [qs_len]; omega)]
end Fe
end Go.Proofs.YtjdebgbiockafaaGreatDoor
