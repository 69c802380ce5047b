/- Flash whose power goes in a step of programming an erased page: what it holds then, and behind another programming. -/
import Derived.Test.YtjmgnfpcieofkaaFlash5
namespace Go.Proofs.Ytjmgnfpcieofkaa
set_option linter.unusedVariables false

theorem dropByte_full (was want : UInt8) (k : Nat) (hk : k < 4) : dropByte was want (4294967295 / 2 ^ (8 * k)) = was &&& want := by
  apply UInt8.toNat_inj.1
  have e : 4294967295 / 2 ^ (8 * k) % 256 = 255 := by
    rcases k with _ | _ | _ | _ | k
    · rfl
    · rfl
    · rfl
    · rfl
    · omega
  rw [dropByte_toNat, e, UInt8.toNat_and]
  simp
theorem erased_drop (x : UInt8) (d : Nat) : dropByte 255 x d ||| x = dropByte 255 x d ∧ dropByte 255 x d &&& x = x := by
  have hx := UInt8.toNat_lt x
  have hq : 255 - d % 256 < 2 ^ 8 := by omega
  have h1 : (dropByte 255 x d).toNat = x.toNat ||| (255 - d % 256) := by
    rw [dropByte_toNat]
    have h2 : x.toNat ||| (255 - d % 256) < 2 ^ 8 := Nat.or_lt_two_pow hx hq
    generalize x.toNat ||| (255 - d % 256) = z at *
    show 255 &&& z = z
    rw [Nat.and_comm, show 255 = 2 ^ 8 - 1 from rfl, Nat.and_two_pow_sub_one_eq_mod, Nat.mod_eq_of_lt h2]
  generalize 255 - d % 256 = q at *
  constructor
  · apply UInt8.toNat_inj.1
    rw [UInt8.toNat_or, h1]
    apply Nat.eq_of_testBit_eq
    intro i
    simp only [Nat.testBit_or]
    cases x.toNat.testBit i <;> cases q.testBit i <;> rfl
  · apply UInt8.toNat_inj.1
    rw [UInt8.toNat_and, h1]
    apply Nat.eq_of_testBit_eq
    intro i
    simp only [Nat.testBit_or, Nat.testBit_and]
    cases x.toNat.testBit i <;> cases q.testBit i <;> rfl

theorem progK_getD (B : List UInt8) (a : Nat) (lb : List UInt8) (mask : Nat) : ∀ (k : Nat), a + k ≤ B.length → ∀ j, (progK B a lb mask k).getD j 0 = if a ≤ j ∧ j < a + k then dropByte (B.getD j 0) (lb.getD (j - a) 0) (mask / 2 ^ (8 * (j - a))) else B.getD j 0 := by
  intro k
  induction k with
  | zero => intro h j; rw [if_neg (by omega)]; rfl
  | succ k ih =>
    intro h j
    have ih := ih (by omega) j
    have hl := progK_length B a lb mask k
    simp only [progK, List.getD_eq_getElem?_getD] at ih ⊢
    by_cases hj : j = a + k
    · subst hj
      rw [List.getElem?_set_self (by omega), if_pos (by omega), Nat.add_sub_cancel_left]
      rfl
    · rw [List.getElem?_set_ne (by omega), ih]
      by_cases h2 : a ≤ j ∧ j < a + k
      · rw [if_pos h2, if_pos (by omega)]
      · rw [if_neg h2, if_neg (by omega)]
theorem badK_false (B : List UInt8) (a : Nat) (lb : List UInt8) (mask : Nat) : ∀ (k : Nat), (∀ i, i < k → dropByte (B.getD (a + i) 0) (lb.getD i 0) (mask / 2 ^ (8 * i)) = lb.getD i 0) → badK B a lb mask k = false := by
  intro k
  induction k with
  | zero => intro _; rfl
  | succ k ih =>
    intro h
    unfold badK
    rw [ih (fun i hi => h i (by omega)), h k (by omega)]
    simp

/-- the word of a text -/
abbrev word4 (lb : List UInt8) (i : Nat) : List UInt8 := (lb.drop (i * 4)).take 4
theorem word4_getD (lb : List UInt8) (i k : Nat) (hk : k < 4) : (word4 lb i).getD k 0 = lb.getD (i * 4 + k) 0 := by
  simp [word4, List.getD_eq_getElem?_getD, hk]

/-- behind i words that were programmed whole, on what an erased page or one that was torn holds -/
structure Mid (lb : List UInt8) (was : Nat → UInt8) (i : Nat) (s : FlS) : Prop where
  len : s.B.length = 256
  off : s.off = false
  at' : ∀ j, j < 256 → s.B.getD j 0 = if j < i * 4 then lb.getD j 0 else was j

theorem Mid.step {lb : List UInt8} {was : Nat → UInt8} {i : Nat} {s : FlS} (h : Mid lb was i s) (hf : s.fails = false) (hi : (i + 1) * 4 ≤ lb.length) (hl : lb.length ≤ 256) (hw : ∀ j, j < lb.length → was j &&& lb.getD j 0 = lb.getD j 0) :
    s.wordErr (0 + i * 4) (word4 lb i) = 0 ∧ Mid lb was (i + 1) (s.word (0 + i * 4) (word4 lb i)) := by
  have hm : s.mask = 4294967295 := by simp [FlS.mask, hf]
  have ho : s.step.off = false := by simp [FlS.step, hf, h.off]
  have hd : ∀ k, k < 4 → dropByte (s.B.getD (0 + i * 4 + k) 0) ((word4 lb i).getD k 0) (s.mask / 2 ^ (8 * k)) = lb.getD (i * 4 + k) 0 := by
    intro k hk
    rw [hm, dropByte_full _ _ _ hk, word4_getD _ _ _ hk, h.at' _ (by omega), if_neg (by omega), Nat.zero_add]
    exact hw _ (by omega)
  constructor
  · unfold FlS.wordErr
    rw [ho, badK_false _ _ _ _ _ (fun k hk => by rw [hd k hk, word4_getD _ _ _ hk])]
    rfl
  · refine ⟨by rw [FlS.word_length, h.len], ho, fun j hj => ?_⟩
    show (progK s.B (0 + i * 4) (word4 lb i) s.mask 4).getD j 0 = _
    rw [progK_getD _ _ _ _ _ (by rw [h.len]; omega)]
    by_cases h1 : 0 + i * 4 ≤ j ∧ j < 0 + i * 4 + 4
    · rw [if_pos h1, if_pos (by omega)]
      have := hd (j - (0 + i * 4)) (by omega)
      rw [show 0 + i * 4 + (j - (0 + i * 4)) = j by omega, show i * 4 + (j - (0 + i * 4)) = j by omega] at this
      exact this
    · rw [if_neg h1, h.at' j hj]
      by_cases h2 : j < i * 4
      · rw [if_pos h2, if_pos (by omega)]
      · rw [if_neg h2, if_neg (by omega)]

theorem Mid.run {lb : List UInt8} {was : Nat → UInt8} (hl : lb.length ≤ 256) (hw : ∀ j, j < lb.length → was j &&& lb.getD j 0 = lb.getD j 0) : ∀ (r i : Nat) (s : FlS), Mid lb was i s → s.armed = false → (i + r) * 4 ≤ lb.length →
    (FlS.progW lb 0 r i s).2 = 0 ∧ Mid lb was (i + r) (FlS.progW lb 0 r i s).1 := by
  intro r
  induction r with
  | zero => intro i s h _ _; exact ⟨rfl, h⟩
  | succ r ih =>
    intro i s h ha hi
    have hf : s.fails = false := by simp [FlS.fails, ha]
    obtain ⟨h1, h2⟩ := h.step hf (by omega) hl hw
    unfold FlS.progW
    rw [if_pos h1]
    have ha2 : (s.word (0 + i * 4) (word4 lb i)).armed = false := by simp [FlS.word, FlS.step, hf, ha]
    have := ih (i + 1) _ h2 ha2 (by omega)
    rw [show i + (r + 1) = i + 1 + r by omega]
    exact this

/-- what a torn page holds -/
def tornAt (lb : List UInt8) (n tear j : Nat) : UInt8 := if j < n * 4 then lb.getD j 0 else if j < n * 4 + 4 then dropByte 255 (lb.getD j 0) (tear / 2 ^ (8 * (j - n * 4))) else 255
theorem and_255 (x : UInt8) : 255 &&& x = x := by
  apply UInt8.toNat_inj.1
  rw [UInt8.toNat_and, Nat.and_comm]
  show x.toNat &&& (2 ^ 8 - 1) = _
  rw [Nat.and_two_pow_sub_one_eq_mod, Nat.mod_eq_of_lt (UInt8.toNat_lt x)]
theorem tornAt_and (lb : List UInt8) (n tear j : Nat) : tornAt lb n tear j &&& lb.getD j 0 = lb.getD j 0 := by
  unfold tornAt
  split
  · simp
  · split
    · exact (erased_drop _ _).2
    · exact and_255 _

theorem torn_run {lb : List UInt8} {tear : Nat} (hl : lb.length ≤ 256) (n : Nat) : ∀ (r i : Nat) (s : FlS), Mid lb (fun _ => 255) i s → s.armed = true → s.left + i = n → s.tear = tear → i ≤ n → n < i + r → (i + r) * 4 ≤ lb.length →
    (FlS.progW lb 0 r i s).2 = 5 ∧ (FlS.progW lb 0 r i s).1.off = true ∧ (FlS.progW lb 0 r i s).1.armed = false ∧ (FlS.progW lb 0 r i s).1.B.length = 256 ∧ ∀ j, j < 256 → (FlS.progW lb 0 r i s).1.B.getD j 0 = tornAt lb n tear j := by
  intro r
  induction r with
  | zero => intro i s _ _ _ _ _ h; omega
  | succ r ih =>
    intro i s h ha hleft ht hin hn hi
    by_cases hz : s.left = 0
    · have hf : s.fails = true := by simp [FlS.fails, ha, hz]
      have hm : s.mask = tear := by simp [FlS.mask, hf, ht]
      have ho : s.step.off = true := by simp [FlS.step, hf]
      have he : s.wordErr (0 + i * 4) (word4 lb i) = 5 := by unfold FlS.wordErr; rw [ho]; rfl
      have hni : n = i := by omega
      subst hni
      unfold FlS.progW
      rw [if_neg (by rw [he]; omega)]
      refine ⟨he, ho, by show s.step.armed = false; simp [FlS.step, hf], by rw [FlS.word_length, h.len], fun j hj => ?_⟩
      show (progK s.B (0 + n * 4) (word4 lb n) s.mask 4).getD j 0 = _
      rw [progK_getD _ _ _ _ _ (by rw [h.len]; omega), h.at' j hj]
      unfold tornAt
      by_cases h1 : 0 + n * 4 ≤ j ∧ j < 0 + n * 4 + 4
      · rw [if_pos h1, if_neg (by omega), if_neg (by omega), if_pos (by omega), hm, word4_getD _ _ _ (by omega), Nat.zero_add, show n * 4 + (j - n * 4) = j by omega]
      · rw [if_neg h1]
        by_cases h2 : j < n * 4
        · rw [if_pos h2, if_pos h2]
        · rw [if_neg h2, if_neg h2, if_neg (by omega)]
    · have hf : s.fails = false := by simp [FlS.fails, ha, hz]
      obtain ⟨h1, h2⟩ := h.step hf (by omega) hl (fun j _ => and_255 _)
      unfold FlS.progW
      rw [if_pos h1]
      have hs : (s.word (0 + i * 4) (word4 lb i)).armed = true ∧ (s.word (0 + i * 4) (word4 lb i)).left = s.left - 1 ∧ (s.word (0 + i * 4) (word4 lb i)).tear = tear := by simp [FlS.word, FlS.step, hf, ha, ht]
      exact ih (i + 1) _ h2 hs.1 (by rw [hs.2.1]; omega) hs.2.2 (by omega) (by omega) (by omega)
end Go.Proofs.Ytjmgnfpcieofkaa
