/- Flash whose power stays: what is programmed and erased is there. No Go function is spoken of. -/
import Derived.Test.YtjmgnfpcieofkaaFlashTearsMath
import Derived.Test.YtjmgnfpcieofkaaBank3
namespace Go.Proofs.Ytjmgnfpcieofkaa
set_option linter.unusedVariables false
set_option linter.unusedSimpArgs false

/-- with power, and none that goes -/
structure FlS.Live (s : FlS) : Prop where
  off : s.off = false
  armed : s.armed = false
  free : s.lt = 0
  ok : s.Ok
theorem FlS.Live.fails {s : FlS} (h : s.Live) : s.fails = false := by simp [FlS.fails, h.armed]
theorem FlS.Live.step {s : FlS} (h : s.Live) : s.step.Live := by
  have hf := h.fails
  refine ⟨by simp [FlS.step, hf, h.off], by simp [FlS.step, hf, h.armed], by rw [FlS.step_free]; exact h.free, FlS.step_ok h.ok⟩
theorem FlS.Live.new (k : Nat) (h1 : 1 ≤ k) (h2 : k ≤ 64) : (FlS.new k).Live := ⟨rfl, rfl, rfl, FlS.new_ok k h1 h2⟩

/-- behind i words of a text, on what was there -/
structure MidA (B : List UInt8) (lb : List UInt8) (a i : Nat) (s : FlS) : Prop where
  len : s.B.length = B.length
  live : s.Live
  at' : ∀ j, j < B.length → s.B.getD j 0 = if a ≤ j ∧ j < a + i * 4 then lb.getD (j - a) 0 else B.getD j 0
theorem FlS.Live.word {s : FlS} (h : s.Live) (a : Nat) (lb : List UInt8) : (s.word a lb).Live :=
  ⟨h.step.off, h.step.armed, h.step.free, FlS.word_ok h.ok a lb⟩
theorem MidA.next {B lb : List UInt8} {a i : Nat} {s : FlS} (h : MidA B lb a i s) (hi : (i + 1) * 4 ≤ lb.length) (hl : a + lb.length ≤ B.length) (hw : ∀ j, j < lb.length → B.getD (a + j) 0 &&& lb.getD j 0 = lb.getD j 0) :
    s.wordErr (a + i * 4) (word4 lb i) = 0 ∧ MidA B lb a (i + 1) (s.word (a + i * 4) (word4 lb i)) := by
  have hf := h.live.fails
  have hm : s.mask = 4294967295 := by simp [FlS.mask, hf]
  have hd : ∀ k, k < 4 → dropByte (s.B.getD (a + i * 4 + k) 0) ((word4 lb i).getD k 0) (s.mask / 2 ^ (8 * k)) = lb.getD (i * 4 + k) 0 := by
    intro k hk
    rw [hm, dropByte_full _ _ _ hk, word4_getD _ _ _ hk, h.at' _ (by omega), if_neg (by omega), Nat.add_assoc]
    exact hw _ (by omega)
  constructor
  · unfold FlS.wordErr
    rw [h.live.step.off, badK_false _ _ _ _ _ (fun k hk => by rw [hd k hk, word4_getD _ _ _ hk])]
    rfl
  · refine ⟨by rw [FlS.word_length, h.len], h.live.word _ _, fun j hj => ?_⟩
    show (progK s.B (a + i * 4) (word4 lb i) s.mask 4).getD j 0 = _
    rw [progK_getD _ _ _ _ _ (by rw [h.len]; omega)]
    by_cases h1 : a + i * 4 ≤ j ∧ j < a + i * 4 + 4
    · rw [if_pos h1, if_pos (by omega)]
      have := hd (j - (a + i * 4)) (by omega)
      rw [show a + i * 4 + (j - (a + i * 4)) = j by omega, show i * 4 + (j - (a + i * 4)) = j - a by omega] at this
      exact this
    · rw [if_neg h1, h.at' j hj]
      by_cases h2 : a ≤ j ∧ j < a + i * 4
      · rw [if_pos h2, if_pos (by omega)]
      · rw [if_neg h2, if_neg (by omega)]
theorem MidA.run {B lb : List UInt8} {a : Nat} (hl : a + lb.length ≤ B.length) (hw : ∀ j, j < lb.length → B.getD (a + j) 0 &&& lb.getD j 0 = lb.getD j 0) : ∀ (r i : Nat) (s : FlS), MidA B lb a i s → (i + r) * 4 ≤ lb.length →
    (FlS.progW lb a r i s).2 = 0 ∧ MidA B lb a (i + r) (FlS.progW lb a r i s).1 := by
  intro r
  induction r with
  | zero => intro i s h _; exact ⟨rfl, h⟩
  | succ r ih =>
    intro i s h hi
    obtain ⟨h1, h2⟩ := h.next (by omega) hl hw
    unfold FlS.progW
    rw [if_pos h1]
    have := ih (i + 1) _ h2 (by omega)
    rw [show i + (r + 1) = i + 1 + r by omega]
    exact this
/-- what is programmed is there, if no bit would have to rise -/
theorem live_prog {s : FlS} (h : s.Live) (a : Nat) (lb : List UInt8) (h4 : lb.length % 4 = 0) (hl : a + lb.length ≤ s.B.length) (hw : ∀ j, j < lb.length → s.B.getD (a + j) 0 &&& lb.getD j 0 = lb.getD j 0) :
    (s.prog a lb).2 = 0 ∧ (s.prog a lb).1.Live ∧ ∀ j, j < s.B.length → (s.prog a lb).1.B.getD j 0 = if a ≤ j ∧ j < a + lb.length then lb.getD (j - a) 0 else s.B.getD j 0 := by
  unfold FlS.prog
  rw [if_neg (by simp [h.off]), if_pos hl]
  obtain ⟨h1, h2⟩ := MidA.run hl hw (lb.length / 4) 0 s ⟨rfl, h, fun j hj => by rw [if_neg (by omega)]⟩ (by omega)
  refine ⟨h1, h2.live, fun j hj => ?_⟩
  rw [h2.at' j hj, show (0 + lb.length / 4) * 4 = lb.length by omega]
theorem eraK_getD (B : List UInt8) (page m : Nat) (hm : ∀ i, i < 32 → m / 2 ^ i % 2 = 1) (k : Nat) : page * 256 + k ≤ B.length → ∀ j, (eraK B page m k).getD j 0 = if page * 256 ≤ j ∧ j < page * 256 + k then 255 else B.getD j 0 := by
  induction k with
  | zero =>
    intro _ j
    rw [if_neg (by omega)]
    simp only [eraK]
  | succ k ih =>
    intro h j
    have ih := ih (by omega) j
    have hl := eraK_length B page m k
    unfold eraK
    rw [if_pos (hm _ (Nat.mod_lt _ (by decide)))]
    simp only [List.getD_eq_getElem?_getD] at ih ⊢
    by_cases hj : j = page * 256 + k
    · subst hj
      rw [List.getElem?_set_self (by omega), if_pos (by omega)]
      rfl
    · rw [List.getElem?_set_ne (by omega), ih]
      clear ih hl
      by_cases h2 : page * 256 ≤ j ∧ j < page * 256 + k
      · rw [if_pos h2, if_pos (by omega)]
      · rw [if_neg h2, if_neg (by omega)]
theorem ones32 : ∀ i, i < 32 → 4294967295 / 2 ^ i % 2 = 1 := by
  set_option maxRecDepth 100000 in decide +kernel
/-- an erased page is all 255 -/
theorem live_era {s : FlS} (h : s.Live) (page : Nat) (hp : page < s.worn.length) :
    (s.era page).2 = 0 ∧ (s.era page).1.Live ∧ ∀ j, j < s.B.length → (s.era page).1.B.getD j 0 = if page * 256 ≤ j ∧ j < page * 256 + 256 then 255 else s.B.getD j 0 := by
  have hm : s.mask = 4294967295 := by simp [FlS.mask, h.fails]
  have hpg := h.ok.pages
  unfold FlS.era
  rw [if_neg (by simp [h.off]), if_neg (by omega)]
  refine ⟨by rw [if_neg (by simp [h.step.off])], ⟨h.step.off, h.step.armed, h.step.free, FlS.eraS_ok h.ok page⟩, fun j hj => ?_⟩
  show (eraK s.B page s.mask 256).getD j 0 = _
  rw [hm]
  exact eraK_getD s.B page _ ones32 256 (by omega) j
theorem rows_aux {α : Type} {A B C F D K : Nat} (j : Nat) (x y : α) (hA : A = F + D) (hB : B = F + D + K) (hC : C = F + D + K) : (if A ≤ j ∧ j < B then x else if F ≤ j ∧ j < F + D then x else y) = if F ≤ j ∧ j < C then x else y := by
  subst hA hB hC
  by_cases c1 : F + D ≤ j ∧ j < F + D + K
  · rw [if_pos c1, if_pos (by omega)]
  · rw [if_neg c1]
    by_cases c2 : F ≤ j ∧ j < F + D
    · rw [if_pos c2, if_pos (by omega)]
    · rw [if_neg c2, if_neg (by omega)]
theorem rows_e2 (f k d : Nat) : (f + 1 + k) * d = f * d + d + k * d := by rw [Nat.add_mul, Nat.succ_mul]
theorem rows_if {α : Type} (first a k j : Nat) (x y : α) : (if (first + (a + 1)) * 256 ≤ j ∧ j < (first + (a + 1) + k) * 256 then x else if (first + a) * 256 ≤ j ∧ j < (first + a) * 256 + 256 then x else y) = if (first + a) * 256 ≤ j ∧ j < (first + a + (k + 1)) * 256 then x else y :=
  rows_aux (D := 256) (K := k * 256) j x y (Nat.succ_mul (first + a) 256) (rows_e2 (first + a) k 256) (by rw [show first + a + (k + 1) = first + a + 1 + k by omega]; exact rows_e2 (first + a) k 256)
theorem live_clr : ∀ (k : Nat) {s : FlS} (h : s.Live) (first a : Nat), first + a + k ≤ s.worn.length →
    (s.clr first a k).2 = 0 ∧ (s.clr first a k).1.Live ∧ (s.clr first a k).1.B.length = s.B.length ∧ ∀ j, j < s.B.length → (s.clr first a k).1.B.getD j 0 = if (first + a) * 256 ≤ j ∧ j < (first + a + k) * 256 then 255 else s.B.getD j 0
  | 0, s, h, first, a, _ => ⟨rfl, h, rfl, fun j hj => by rw [if_neg (by omega)]; rfl⟩
  | k + 1, s, h, first, a, hk => by
    obtain ⟨h1, h2, h3⟩ := live_era h (first + a) (by omega)
    have hB := FlS.era_length s (first + a)
    have hw := FlS.era_wornlen s (first + a)
    obtain ⟨g1, g2, g4, g3⟩ := live_clr k h2 first (a + 1) (by omega)
    unfold FlS.clr
    rw [if_pos h1]
    refine ⟨g1, g2, by rw [g4, hB], fun j hj => ?_⟩
    rw [g3 j (by omega), h3 j hj]
    exact rows_if first a k j _ _
theorem and_zero8 (x : UInt8) : x &&& 0 = 0 := by
  apply UInt8.toNat_inj.1
  rw [UInt8.toNat_and, UInt8.toNat_zero, Nat.and_zero]
theorem and_ones8 (x : UInt8) : 255 &&& x = x := by
  apply UInt8.toNat_inj.1
  rw [UInt8.toNat_and]
  have h := UInt8.toNat_lt x
  have e : (255 : UInt8).toNat = 2 ^ 8 - 1 := by decide +kernel
  rw [e, Nat.and_comm, Nat.and_two_pow_sub_one_eq_mod, Nat.mod_eq_of_lt h]
/-- a page is written -/
theorem live_write {s : FlS} (h : s.Live) (to : Nat) (b : List UInt8) (hb : b.length = 160) (ht : to < s.worn.length) :
    (s.write to b).2 = 0 ∧ (s.write to b).1.Live ∧ (s.write to b).1.B.length = s.B.length ∧ ∀ j, j < s.B.length → (s.write to b).1.B.getD j 0 = if to * 256 ≤ j ∧ j < to * 256 + 160 then b.getD (j - to * 256) 0 else if to * 256 ≤ j ∧ j < to * 256 + 256 then 255 else s.B.getD j 0 := by
  have hpg := h.ok.pages
  obtain ⟨a1, a2, a3⟩ := live_prog h (to * 256) [0, 0, 0, 0] rfl (by simp; omega) (fun j hj => by
    have hz : ([0, 0, 0, 0] : List UInt8).getD j 0 = 0 := by
      match j with
      | 0 => rfl
      | 1 => rfl
      | 2 => rfl
      | 3 => rfl
      | n + 4 => rfl
    rw [hz]; exact and_zero8 _)
  have l1 := FlS.prog_length s (to * 256) [0, 0, 0, 0]
  have w1 := FlS.prog_worn s (to * 256) [0, 0, 0, 0]
  obtain ⟨b1, b2, b3⟩ := live_era a2 to (by rw [w1]; exact ht)
  have l2 := FlS.era_length (s.prog (to * 256) [0, 0, 0, 0]).1 to
  obtain ⟨c1, c2, c3⟩ := live_prog b2 (to * 256) b (by omega) (by omega) (fun j hj => by
    rw [b3 _ (by omega), if_pos (by omega)]; exact and_ones8 _)
  have l3 := FlS.prog_length ((s.prog (to * 256) [0, 0, 0, 0]).1.era to).1 (to * 256) b
  have he : s.write to b = ((s.prog (to * 256) [0, 0, 0, 0]).1.era to).1.prog (to * 256) b := by
    unfold FlS.write
    rw [if_neg (by simp [a1]), if_neg (by simp [b1])]
  rw [he]
  refine ⟨c1, c2, by rw [l3, l2, l1], fun j hj => ?_⟩
  rw [c3 j (by omega), hb]
  by_cases d1 : to * 256 ≤ j ∧ j < to * 256 + 160
  · rw [if_pos d1, if_pos d1]
  · rw [if_neg d1, if_neg d1, b3 j (by omega)]
    by_cases d2 : to * 256 ≤ j ∧ j < to * 256 + 256
    · rw [if_pos d2, if_pos d2]
    · rw [if_neg d2, if_neg d2, a3 j hj, if_neg (by simp; omega)]
end Go.Proofs.Ytjmgnfpcieofkaa
