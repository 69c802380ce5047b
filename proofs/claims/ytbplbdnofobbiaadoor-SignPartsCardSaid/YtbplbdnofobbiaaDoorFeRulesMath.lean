/- field: what makes 1; the rules of sums and products. -/
import Derived.Test.YtbplbdnofobbiaaDoorFeLaw
import Derived.Test.YtbplbdnofobbiaaDoorPrime
set_option linter.unusedVariables false
set_option linter.unusedSimpArgs false
set_option maxRecDepth 100000
set_option maxHeartbeats 8000000
namespace Go.Proofs.YtbplbdnofobbiaaDoor
namespace Fe
open Go.ChangeShapes Go.WideShapes Go.ChangeAt Go.RowKit
theorem prime5 : Pr.Prm P5 := Pr.prm_P5
theorem pwr_pow (a e : Nat) (he : e < 2 ^ 256) : ∀ k, k ≤ 256 → pwr a e k = a ^ (e / 2 ^ (256 - k)) % P5
 | 0, _ => by
  rw [Nat.div_eq_of_lt he, Nat.pow_zero]
  show 1 = 1 % P5
  decide
 | k + 1, hk => by
  have ih := pwr_pow a e he k (by omega)
  show stepP a e k (pwr a e k) = _
  have e1 : e / 2 ^ (255 - k) / 2 = e / 2 ^ (256 - k) := by rw [Nat.div_div_eq_div_mul, ← Nat.pow_succ]; congr 2; omega
  rw [show 256 - (k + 1) = 255 - k by omega]
  unfold stepP
  rw [ih, Nat.testBit_eq_decide_div_mod_eq]
  generalize e / 2 ^ (255 - k) = m at *
  rw [← e1, ← Nat.mul_mod, ← Nat.pow_add]
  by_cases hb : m % 2 = 1
  ·rw [if_pos (by simpa using hb), Nat.mod_mul_mod, ← Nat.pow_succ]
   congr 2; omega
  ·rw [if_neg (by simpa using hb)]
   congr 2; omega
theorem pwr_all (a e : Nat) (he : e < 2 ^ 256) : pwr a e 256 = a ^ e % P5 := by
 have := pwr_pow a e he 256 (Nat.le_refl _)
 rwa [Nat.sub_self, Nat.pow_zero, Nat.div_one] at this
theorem inv_one (x : Nat) (h0 : x ≠ 0) (hx : x < P5) : x * pwr x (P5 - 2) 256 % P5 = 1 := by
 rw [pwr_all _ _ (by decide +kernel), Nat.mul_mod_mod, Nat.mul_comm, ← Nat.pow_succ, show (P5 - 2).succ = P5 - 1 by decide +kernel]
 exact prime5.fermat x (fun hd => by have := Nat.le_of_dvd (by omega) hd; omega)
theorem neg_mul (p x y : Nat) (hp : 0 < p) (hx : x ≤ p) : ((p - x) % p * y) % p = (p - x * y % p) % p := by
 rw [Nat.mod_mul_mod]
 have hs : (p - x) * y + x * y = p * y := by rw [← Nat.add_mul]; congr 1; omega
 have h : ((p - x) * y % p + x * y % p) % p = 0 := by rw [← Nat.add_mod, hs, Nat.mul_mod_right]
 have hu := Nat.mod_lt ((p - x) * y) hp
 have hv := Nat.mod_lt (x * y) hp
 generalize (p - x) * y % p = u at *
 generalize x * y % p = v at *
 rcases Nat.lt_or_ge (u + v) p with h1 | h1
 ·rw [Nat.mod_eq_of_lt h1] at h
  obtain rfl : u = 0 := by omega
  obtain rfl : v = 0 := by omega
  rw [Nat.sub_zero, Nat.mod_self]
 ·rw [Nat.mod_eq_sub_mod h1, Nat.mod_eq_of_lt (by omega)] at h
  rw [Nat.mod_eq_of_lt (by omega)]; omega
theorem add_two (u v : Nat) (hu : u < P5) (hv : v < P5) (vv : Value) (X : World) (h1 : IsEl X vv [u, v]) (h2 : Tab5 X) : Calls Tryd.prog 75 #[vv] X fun e w' => e = .returned (.agg (q4 ((u + v) % P5))) ∧ Below X.heap.size X w' := by
 have := add_any vv [u, v] (by simp only [List.mem_cons, List.not_mem_nil, or_false]; rintro t (rfl | rfl) <;> assumption) (show 2 < 1000 by decide) X h1 h2
 rwa [show sumP [u, v] = (u + v) % P5 by simp only [sumP, List.foldl_cons, List.foldl_nil, Nat.zero_add]; rw [Nat.mod_eq_of_lt hu]] at this
theorem mul_two (u v : Nat) (hu : u < P5) (hv : v < P5) (vv : Value) (X : World) (h1 : IsEl X vv [u, v]) (h2 : Tab5 X) : Calls Tryd.prog 73 #[vv] X fun e w' => e = .returned (.agg (q4 (u * v % P5))) ∧ Below X.heap.size X w' := by
 have := mul_any vv [u, v] (by simp only [List.mem_cons, List.not_mem_nil, or_false]; rintro t (rfl | rfl) <;> assumption) (show 2 < 1000 by decide) X h1 h2
 rwa [show mulP [u, v] = u * v % P5 from rfl] at this
end Fe
end Go.Proofs.YtbplbdnofobbiaaDoor
