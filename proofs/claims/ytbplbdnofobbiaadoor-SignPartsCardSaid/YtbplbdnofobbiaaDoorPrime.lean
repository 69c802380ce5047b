/- Prime numbers: Fermat's little theorem, Pocklington's criterion, and that 2^255 - 19 is prime. No Go function is spoken of here. -/
import Derived.Test.YtbplbdnofobbiaaDoorRows
set_option linter.unusedVariables false
set_option linter.unusedSimpArgs false
set_option maxRecDepth 100000
set_option maxHeartbeats 8000000
namespace Go.Proofs.YtbplbdnofobbiaaDoor
namespace Pr
def Prm (p : Nat) : Prop := 1 < p ∧ ∀ k, k ∣ p → k = 1 ∨ k = p
theorem Prm.cop {p k : Nat} (h : Prm p) (hk : ¬ p ∣ k) : Nat.Coprime p k := by
 rcases h.2 (Nat.gcd p k) (Nat.gcd_dvd_left p k) with h1 | h1
 ·exact h1
 ·exact absurd (h1 ▸ Nat.gcd_dvd_right p k) hk
def ch : Nat → Nat → Nat
 | _, 0 => 1
 | 0, _ + 1 => 0
 | n + 1, k + 1 => ch n k + ch n (k + 1)
theorem ch_0 (n : Nat) : ch n 0 = 1 := by cases n <;> rfl
theorem ch_gt : ∀ (n k : Nat), n < k → ch n k = 0
 | _, 0, h => by omega
 | 0, k + 1, _ => rfl
 | n + 1, k + 1, h => by
  show ch n k + ch n (k + 1) = 0
  rw [ch_gt n k (by omega), ch_gt n (k + 1) (by omega)]
theorem ch_self : ∀ n : Nat, ch n n = 1
 | 0 => rfl
 | n + 1 => by
  show ch n n + ch n (n + 1) = 1
  rw [ch_self n, ch_gt n (n + 1) (by omega)]
theorem ch_one : ∀ n : Nat, ch n 1 = n
 | 0 => rfl
 | n + 1 => by
  show ch n 0 + ch n 1 = n + 1
  rw [ch_0, ch_one n, Nat.add_comm]
theorem ch_abs : ∀ (n k : Nat), (n + 1) * ch n k = ch (n + 1) (k + 1) * (k + 1)
 | 0, 0 => rfl
 | 0, k + 1 => by
  show 1 * 0 = (0 + ch 0 (k + 2)) * (k + 2)
  rw [ch_gt 0 (k + 2) (by omega)]; simp
 | n + 1, 0 => by
  rw [ch_0, ch_one]
 | n + 1, k + 1 => by
  have h1 := ch_abs n k
  have h2 := ch_abs n (k + 1)
  have e1 : ch (n + 1 + 1) (k + 1 + 1) = ch (n + 1) (k + 1) + ch (n + 1) (k + 1 + 1) := rfl
  have e2 : ch (n + 1) (k + 1) = ch n k + ch n (k + 1) := rfl
  have e3 : ch (n + 1) (k + 1) * (k + 1 + 1) = ch (n + 1) (k + 1) * (k + 1) + ch (n + 1) (k + 1) := Nat.mul_succ _ _
  have e4 : (n + 1 + 1) * ch (n + 1) (k + 1) = (n + 1) * ch (n + 1) (k + 1) + ch (n + 1) (k + 1) := Nat.succ_mul _ _
  have e5 : (n + 1) * ch (n + 1) (k + 1) = (n + 1) * ch n k + (n + 1) * ch n (k + 1) := by rw [e2, Nat.mul_add]
  rw [e1, Nat.add_mul (ch (n + 1) (k + 1)) (ch (n + 1) (k + 1 + 1)) (k + 1 + 1), e3, e4, e5, ← h1, ← h2]
  omega
theorem Prm.ch_dvd {p k : Nat} (h : Prm p) (h0 : 0 < k) (hk : k < p) : p ∣ ch p k := by
 obtain ⟨n, rfl⟩ : ∃ n, p = n + 1 := ⟨p - 1, by omega⟩
 obtain ⟨j, rfl⟩ : ∃ j, k = j + 1 := ⟨k - 1, by omega⟩
 have e := ch_abs n j
 have hc := h.cop (k := j + 1) (fun hd => by have := Nat.le_of_dvd (by omega) hd; omega)
 refine hc.dvd_of_dvd_mul_right (n := j + 1) ?_
 rw [← e]
 exact Nat.dvd_mul_right _ _
def bs (n a : Nat) : Nat → Nat
 | 0 => 0
 | m + 1 => bs n a m + ch n m * a ^ m
theorem bs_succ (n a : Nat) : ∀ m, bs (n + 1) a (m + 1) = bs n a (m + 1) + a * bs n a m
 | 0 => by simp [bs, ch_0]
 | m + 1 => by
  have ih := bs_succ n a m
  have e1 : bs (n + 1) a (m + 1 + 1) = bs (n + 1) a (m + 1) + (ch n m + ch n (m + 1)) * a ^ (m + 1) := rfl
  have e2 : bs n a (m + 1 + 1) = bs n a (m + 1) + ch n (m + 1) * a ^ (m + 1) := rfl
  have e3 : bs n a (m + 1) = bs n a m + ch n m * a ^ m := rfl
  have e4 : a * (ch n m * a ^ m) = ch n m * a ^ (m + 1) := by rw [Nat.pow_succ, Nat.mul_left_comm, Nat.mul_comm a]
  rw [e1, ih, e2, Nat.add_mul]
  have e5 : a * bs n a (m + 1) = a * bs n a m + ch n m * a ^ (m + 1) := by rw [e3, Nat.mul_add, e4]
  rw [e5]; omega
theorem bs_all (a : Nat) : ∀ n, bs n a (n + 1) = (a + 1) ^ n
 | 0 => by simp [bs, ch]
 | n + 1 => by
  have e2 : bs n a (n + 1 + 1) = bs n a (n + 1) + ch n (n + 1) * a ^ (n + 1) := rfl
  rw [bs_succ n a (n + 1), e2, ch_gt n (n + 1) (by omega), Nat.zero_mul, Nat.add_zero, bs_all a n, Nat.pow_succ, Nat.mul_add, Nat.mul_one, Nat.mul_comm a, Nat.add_comm]
theorem Prm.bs_mod {p : Nat} (h : Prm p) (a : Nat) : ∀ m, 1 ≤ m → m ≤ p → bs p a m % p = 1 % p
 | 0, h1, _ => by omega
 | 1, _, _ => by simp [bs, ch_0]
 | m + 2, _, hm => by
  have e : bs p a (m + 2) = bs p a (m + 1) + ch p (m + 1) * a ^ (m + 1) := rfl
  obtain ⟨c, hc⟩ := h.ch_dvd (k := m + 1) (by omega) (by omega)
  rw [e, hc, Nat.mul_assoc, Nat.add_mul_mod_self_left]
  exact h.bs_mod a (m + 1) (by omega) (by omega)
theorem Prm.step {p : Nat} (h : Prm p) (a : Nat) : (a + 1) ^ p % p = (a ^ p + 1) % p := by
 have e : bs p a (p + 1) = bs p a p + ch p p * a ^ p := rfl
 rw [← bs_all, e, ch_self, Nat.one_mul, Nat.add_mod, h.bs_mod a p (by have := h.1; omega) (Nat.le_refl _), ← Nat.add_mod, Nat.add_comm]
theorem Prm.flt {p : Nat} (h : Prm p) : ∀ a, a ^ p % p = a % p
 | 0 => by rw [Nat.zero_pow (by have := h.1; omega)]
 | a + 1 => by rw [h.step, Nat.add_mod, h.flt a, ← Nat.add_mod]
theorem Prm.fermat {p : Nat} (h : Prm p) (a : Nat) (ha : ¬ p ∣ a) : a ^ (p - 1) % p = 1 := by
 have h1 := h.1
 have hf := Nat.sub_mod_eq_zero_of_mod_eq (h.flt a)
 have e : a ^ p - a = a * (a ^ (p - 1) - 1) := by
  rw [Nat.mul_sub, Nat.mul_one]
  congr 1
  conv => lhs; rw [show p = (p - 1) + 1 by omega, Nat.pow_succ, Nat.mul_comm]
 rw [e] at hf
 have hd := (h.cop ha).dvd_of_dvd_mul_left (Nat.dvd_of_mod_eq_zero hf)
 obtain ⟨c, hc⟩ := hd
 have ha0 : 0 < a := Nat.pos_of_ne_zero fun h0 => ha (h0 ▸ Nat.dvd_zero p)
 have hp : 0 < a ^ (p - 1) := Nat.pow_pos ha0
 rw [show a ^ (p - 1) = 1 + p * c by omega, Nat.add_mul_mod_self_left, Nat.mod_eq_of_lt h1]
def One (d a e : Nat) : Prop := a ^ e % d = 1 % d
theorem One.mul {d a e : Nat} (h : One d a e) (c : Nat) : One d a (e * c) := by
 unfold One at *
 rw [Nat.pow_mul, Nat.pow_mod, h, ← Nat.pow_mod, Nat.one_pow]
theorem One.gcd {d a : Nat} (m n : Nat) : One d a m → One d a n → One d a (Nat.gcd m n) := by
 refine Nat.gcd.induction (P := fun m n => One d a m → One d a n → One d a (Nat.gcd m n)) m n ?_ ?_
 ·intro n _ h; rwa [Nat.gcd_zero_left]
 ·intro m n hm ih h1 h2
  rw [Nat.gcd_rec]
  refine ih ?_ h1
  have h3 := h1.mul (n / m)
  unfold One at *
  have e : a ^ n = a ^ (m * (n / m)) * a ^ (n % m) := by rw [← Nat.pow_add, Nat.div_add_mod]
  rw [e, Nat.mul_mod, h3, ← Nat.mul_mod, Nat.one_mul] at h2
  exact h2
theorem exists_prm (n : Nat) : 1 < n → ∃ d, Prm d ∧ d ∣ n := by
 induction n using Nat.strongRecOn with
 | ind n ih =>
  intro h1
  by_cases hp : Prm n
  ·exact ⟨n, hp, Nat.dvd_refl n⟩
  ·have : ∃ k, k ∣ n ∧ k ≠ 1 ∧ k ≠ n := Classical.byContradiction fun hx => hp ⟨h1, fun k hk => Classical.byContradiction fun hne => hx ⟨k, hk, fun e => hne (.inl e), fun e => hne (.inr e)⟩⟩
   obtain ⟨k, hk, hk1, hkn⟩ := this
   have hle := Nat.le_of_dvd (by omega) hk
   have hk0 : k ≠ 0 := fun e => by rw [e] at hk; have := Nat.eq_zero_of_zero_dvd hk; omega
   obtain ⟨d, hd, hdk⟩ := ih k (by omega) (by omega)
   exact ⟨d, hd, Nat.dvd_trans hdk hk⟩
theorem small_prm (n : Nat) (h1 : 1 < n) (hp : ¬ Prm n) : ∃ d, Prm d ∧ d ∣ n ∧ d * d ≤ n := by
 have : ∃ k, k ∣ n ∧ k ≠ 1 ∧ k ≠ n := Classical.byContradiction fun hx => hp ⟨h1, fun k hk => Classical.byContradiction fun hne => hx ⟨k, hk, fun e => hne (.inl e), fun e => hne (.inr e)⟩⟩
 obtain ⟨k, ⟨v, rfl⟩, hk1, hkn⟩ := this
 have hk0 : k ≠ 0 := fun e => by rw [e, Nat.zero_mul] at h1; omega
 have hv0 : v ≠ 0 := fun e => by rw [e, Nat.mul_zero] at h1; omega
 have hv1 : v ≠ 1 := fun e => hkn (by rw [e, Nat.mul_one])
 rcases Nat.le_total k v with hkv | hkv
 ·obtain ⟨d, hd, hdk⟩ := exists_prm k (by omega)
  have := Nat.le_of_dvd (by omega) hdk
  exact ⟨d, hd, Nat.dvd_trans hdk (Nat.dvd_mul_right _ _), Nat.mul_le_mul this (Nat.le_trans this hkv)⟩
 ·obtain ⟨d, hd, hdk⟩ := exists_prm v (by omega)
  have := Nat.le_of_dvd (by omega) hdk
  exact ⟨d, hd, Nat.dvd_trans hdk (Nat.dvd_mul_left _ _), Nat.mul_le_mul (Nat.le_trans this hkv) this⟩
def sqm (n h : Nat) : Nat := h * h % n
def pm (n a : Nat) : Nat → Nat → Nat
 | 0, _ => 1 % n
 | f + 1, e => if e % 2 = 1 then sqm n (pm n a f (e / 2)) * a % n else sqm n (pm n a f (e / 2))
theorem pm_eq (n a : Nat) : ∀ (f e : Nat), e < 2 ^ f → pm n a f e = a ^ e % n
 | 0, e, h => by
  obtain rfl : e = 0 := by simpa using h
  rfl
 | f + 1, e, h => by
  have ih := pm_eq n a f (e / 2) (by rw [Nat.pow_succ] at h; omega)
  have hs : sqm n (pm n a f (e / 2)) = a ^ (2 * (e / 2)) % n := by
   unfold sqm
   rw [ih, ← Nat.mul_mod, ← Nat.pow_add]; congr 2; omega
  unfold pm
  rw [hs]
  split
  ·rename_i h1
   rw [Nat.mod_mul_mod, ← Nat.pow_succ]; congr 2; omega
  ·congr 2; omega
theorem pock_one (n q m a d : Nat) (hq : Prm q) (hd : Prm d) (hdn : d ∣ n) (h0 : 0 < n) (h1 : n - 1 = q * m) (ho : One d a (n - 1)) (hda : One d a (d - 1)) (g : Nat.gcd (a ^ m % n + (n - 1)) n = 1) : q ∣ d - 1 := by
 refine Classical.byContradiction fun hnd => ?_
 have hc := hq.cop hnd
 have hg := One.gcd _ _ ho hda
 rw [h1, hc.gcd_mul_left_cancel] at hg
 have hm : One d a m := by
  obtain ⟨c, hc⟩ := Nat.gcd_dvd_left m (d - 1)
  have := hg.mul c
  rwa [← hc] at this
 have h2 : a ^ m % n % d = 1 := by
  rw [Nat.mod_mod_of_dvd _ hdn]
  have h3 : a ^ m % d = 1 % d := hm
  rw [h3, Nat.mod_eq_of_lt hd.1]
 have h3 : d ∣ a ^ m % n + (n - 1) := by
  obtain ⟨e, rfl⟩ := hdn
  have h4 := Nat.div_add_mod (a ^ m % (d * e)) d
  rw [h2] at h4
  refine ⟨a ^ m % (d * e) / d + e, ?_⟩
  rw [Nat.mul_add]; omega
 have h4 := Nat.dvd_gcd h3 hdn
 rw [g] at h4
 have := Nat.le_of_dvd (by decide) h4
 have := hd.1
 omega
theorem pock (n q s m1 m2 a : Nat) (hn : 1 < n) (hq : Prm q) (hs : Prm s) (hne : q ≠ s) (h1 : n - 1 = q * m1) (h2 : n - 1 = s * m2) (hf : pm n a 256 (n - 1) = 1)
  (g1 : Nat.gcd (pm n a 256 m1 + (n - 1)) n = 1) (g2 : Nat.gcd (pm n a 256 m2 + (n - 1)) n = 1) (hb : n < q * s * (q * s)) (hlt : n < 2 ^ 256) : Prm n := by
 refine Classical.byContradiction fun hp => ?_
 obtain ⟨d, hd, hdn, hdd⟩ := small_prm n hn hp
 have hm1 : m1 ≤ n - 1 := by rw [h1]; exact Nat.le_mul_of_pos_left _ (by have := hq.1; omega)
 have hm2 : m2 ≤ n - 1 := by rw [h2]; exact Nat.le_mul_of_pos_left _ (by have := hs.1; omega)
 rw [pm_eq _ _ _ _ (by omega)] at hf g1 g2
 have ho : One d a (n - 1) := by
  unfold One
  rw [← Nat.mod_mod_of_dvd _ hdn, hf]
 have hda : ¬ d ∣ a := fun hx => by
  have h3 : d ∣ a ^ (n - 1) := Nat.dvd_trans hx (by
   obtain ⟨k, hk⟩ : ∃ k, n - 1 = k + 1 := ⟨n - 2, by omega⟩
   rw [hk, Nat.pow_succ]; exact Nat.dvd_mul_left _ _)
  have h4 : a ^ (n - 1) % d = 1 % d := ho
  rw [Nat.mod_eq_zero_of_dvd h3, Nat.mod_eq_of_lt hd.1] at h4
  omega
 have hF : One d a (d - 1) := by
  unfold One
  rw [hd.fermat a hda, Nat.mod_eq_of_lt hd.1]
 have k1 := pock_one n q m1 a d hq hd hdn (by omega) h1 ho hF g1
 have k2 := pock_one n s m2 a d hs hd hdn (by omega) h2 ho hF g2
 have hc : Nat.Coprime q s := hq.cop fun hx => by
  rcases hs.2 q hx with e | e
  ·have := hq.1; omega
  ·exact hne e
 have k3 := hc.mul_dvd_of_dvd_of_dvd k1 k2
 have h5 := hd.1
 have k4 := Nat.le_of_dvd (by omega) k3
 have k5 : q * s * (q * s) ≤ d * d := Nat.mul_le_mul (by omega) (by omega)
 omega
def td (n : Nat) : Nat → Nat → Bool
 | 0, _ => true
 | f + 1, k => n % k != 0 && td n f (k + 1)
theorem td_ok (n : Nat) : ∀ (f k : Nat), td n f k = true → ∀ j, k ≤ j → j < k + f → ¬ j ∣ n
 | 0, k, _, j, h1, h2 => by omega
 | f + 1, k, h, j, h1, h2 => by
  simp only [td, Bool.and_eq_true, bne_iff_ne, ne_eq] at h
  rcases Nat.eq_or_lt_of_le h1 with rfl | h3
  ·exact fun hd => h.1 (Nat.mod_eq_zero_of_dvd hd)
  ·exact td_ok n f (k + 1) h.2 j h3 (by omega)
theorem prm_td (n f : Nat) (hn : 1 < n) (h : td n f 2 = true) (hf : n < (2 + f) * (2 + f)) : Prm n := by
 refine Classical.byContradiction fun hp => ?_
 obtain ⟨d, hd, hdn, hdd⟩ := small_prm n hn hp
 refine td_ok n f 2 h d hd.1 ?_ hdn
 exact Nat.lt_of_not_le fun hle => by
  have := Nat.mul_le_mul hle hle
  omega
theorem prm_7 : Prm 7 := prm_td 7 2 (by decide) (by decide +kernel) (by decide)
theorem prm_3 : Prm 3 := prm_td 3 1 (by decide) (by decide +kernel) (by decide)
theorem prm_353 : Prm 353 := prm_td 353 18 (by decide) (by decide +kernel) (by decide)
theorem prm_75707 : Prm 75707 := prm_td 75707 275 (by decide) (by decide +kernel) (by decide)
theorem prm_8574133 : Prm 8574133 := prm_td 8574133 2928 (by decide) (by decide +kernel) (by decide)
theorem prm_1919519569386763 : Prm 1919519569386763 := pock 1919519569386763 8574133 7 223873314 274217081340966 2 (by decide) prm_8574133 prm_7 (by decide) (by decide +kernel) (by decide +kernel) (by decide +kernel) (by decide +kernel) (by decide +kernel) (by decide +kernel) (by decide)
theorem prm_75445702479781427272750846543864801 : Prm 75445702479781427272750846543864801 := pock 75445702479781427272750846543864801 1919519569386763 75707 39304471641247389600 996548568557483816196003626400 2 (by decide) prm_1919519569386763 prm_75707 (by decide) (by decide +kernel) (by decide +kernel) (by decide +kernel) (by decide +kernel) (by decide +kernel) (by decide +kernel) (by decide)
theorem prm_74058212732561358302231226437062788676166966415465897661863160754340907 : Prm 74058212732561358302231226437062788676166966415465897661863160754340907 := pock 74058212732561358302231226437062788676166966415465897661863160754340907 75445702479781427272750846543864801 353 981609426360740691344999861639072106 209796636636151156663544550813209033076960244803019540118592523383402 2 (by decide) prm_75445702479781427272750846543864801 prm_353 (by decide) (by decide +kernel) (by decide +kernel) (by decide +kernel) (by decide +kernel) (by decide +kernel) (by decide +kernel) (by decide)
theorem prm_P5 : Prm 57896044618658097711785492504343953926634992332820282019728792003956564819949 := pock 57896044618658097711785492504343953926634992332820282019728792003956564819949 74058212732561358302231226437062788676166966415465897661863160754340907 3 781764 19298681539552699237261830834781317975544997444273427339909597334652188273316 2 (by decide) prm_74058212732561358302231226437062788676166966415465897661863160754340907 prm_3 (by decide) (by decide +kernel) (by decide +kernel) (by decide +kernel) (by decide +kernel) (by decide +kernel) (by decide +kernel) (by decide)
end Pr
end Go.Proofs.YtbplbdnofobbiaaDoor
