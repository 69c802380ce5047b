/- opcode: a request that was parsed has just its bytes. No call is spoken of. -/
import Derived.Test.YtdieaegajahdpaaOpc7
namespace Go.Proofs.Ytdieaegajahdpaa
set_option linter.unusedVariables false
set_option linter.unusedSimpArgs false

theorem numS_byte (l : List UInt8) (at' : Nat) : ∀ k j, j < k → numS l at' k / 2 ^ (8 * j) % 256 = (l.getD (at' + j) 0).toNat := by
  intro k
  induction k with
  | zero => intro j h; omega
  | succ k ih =>
    intro j hj
    simp only [numS]
    have hc := UInt8.toNat_lt (l.getD (at' + k) 0)
    rcases Nat.lt_or_ge j k with h | h
    · have e : 2 ^ (8 * k) = 2 ^ (8 * j) * (256 * 2 ^ (8 * (k - j - 1))) := by
        rw [show (256 : Nat) = 2 ^ 8 from rfl, ← Nat.pow_add, ← Nat.pow_add]
        congr 1
        omega
      have := ih j h
      generalize (l.getD (at' + k) 0).toNat = c at *
      rw [e, show c * (2 ^ (8 * j) * (256 * 2 ^ (8 * (k - j - 1)))) = 2 ^ (8 * j) * (256 * (c * 2 ^ (8 * (k - j - 1)))) by ac_rfl]
      rw [Nat.add_mul_div_left _ _ (Nat.two_pow_pos _), Nat.add_mul_mod_self_left]
      exact this
    · obtain rfl : j = k := by omega
      have hlt := numS_lt l at' j
      generalize (l.getD (at' + j) 0).toNat = c at *
      rw [Nat.mul_comm, Nat.add_mul_div_left _ _ (Nat.two_pow_pos _), Nat.div_eq_of_lt hlt]
      omega

theorem wordB_take (t : List UInt8) (a k : Nat) (hk : k ≤ 4) (h : a + k ≤ t.length) : (wordB (numS t a k)).take k = (t.drop a).take k := by
  apply List.ext_getElem?
  intro j
  rw [List.getElem?_take, List.getElem?_take]
  by_cases hj : j < k
  · rw [if_pos hj, if_pos hj, List.getElem?_drop, List.getElem?_eq_getElem (show a + j < t.length by omega)]
    have e : b4 (numS t a k) j = t[a + j] := by
      apply UInt8.toNat_inj.1
      rw [b4_toNat, numS_byte _ _ _ _ hj, List.getD_eq_getElem?_getD, List.getElem?_eq_getElem (show a + j < t.length by omega)]
      rfl
    rw [← e]
    rcases (show j = 0 ∨ j = 1 ∨ j = 2 ∨ j = 3 by omega) with rfl | rfl | rfl | rfl <;> rfl
  · rw [if_neg hj, if_neg hj]

theorem encBytes_got {b : List UInt8} (h : reqErr b = 0) : encBytes (reqGot b) = b := by
  cases b with
  | nil => cases h
  | cons c t =>
    simp only [reqErr, reqGot] at h ⊢
    cases hf : formOf c with
    | none => rw [hf] at h; cases h
    | some f =>
      rw [hf] at h
      simp only at h ⊢
      rw [if_pos h]
      have hs := formOf_small hf
      have hl : f.kind + f.size ≤ t.length := by
        unfold lenErr at h
        split at h
        · cases h
        · omega
      have hd : formD c = f := by unfold formD; rw [hf]; rfl
      unfold encBytes parsed
      simp only
      rw [hd, wordB_take _ _ _ hs.2.1 hl]
      clear h hf hd
      obtain ⟨K, S, L, M⟩ := f
      simp only at *
      rcases (show K = 0 ∨ K = 1 by omega) with rfl | rfl
      · simp
      · cases t with
        | nil => simp at hl
        | cons x t' =>
          simp [Nat.add_comm 1 S]

theorem encOk_got {b : List UInt8} (h : reqErr b = 0) : encOk (reqGot b) = true := by
  unfold encOk
  rw [encBytes_got h, h]
  simp [reqSame_iff.2]
theorem reqGot_size (b : List UInt8) : (reqGot b).size < 4294967296 := by
  cases b with
  | nil => simp [reqGot, zeroQ]
  | cons c t =>
    simp only [reqGot]
    cases hf : formOf c with
    | none => simp [zeroQ]
    | some f =>
      simp only
      split
      · have h1 := formOf_small hf
        have h2 := numS_lt t f.kind f.size
        have : 2 ^ (8 * f.size) ≤ 2 ^ 32 := Nat.pow_le_pow_right (by decide) (by omega)
        show numS t f.kind f.size < 4294967296
        omega
      · simp [zeroQ]
theorem reqGot_data (b : List UInt8) : (reqGot b).data.length ≤ b.length := by
  cases b with
  | nil => simp [reqGot, zeroQ]
  | cons c t =>
    simp only [reqGot]
    cases hf : formOf c with
    | none => simp [zeroQ]
    | some f =>
      simp only
      split
      · simp [parsed]; omega
      · simp [zeroQ]
end Go.Proofs.Ytdieaegajahdpaa
