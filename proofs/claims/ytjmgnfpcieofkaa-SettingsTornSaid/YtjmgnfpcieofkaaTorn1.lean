/- Flash whose power may go in a step: what is programmed, erased and written then. No Go function is spoken of. -/
import Derived.Test.YtjmgnfpcieofkaaFlMath
import Derived.Test.YtjmgnfpcieofkaaFlMath2
namespace Go.Proofs.Ytjmgnfpcieofkaa
set_option linter.unusedVariables false
set_option linter.unusedSimpArgs false

/-- with power, that may go in a step, of which T tells what is done -/
structure FlS.Up (s : FlS) (T : Nat) : Prop where
  off : s.off = false
  free : s.lt = 0
  ok : s.Ok
  tear : s.armed = true → s.tear = T
/-- the power has gone -/
structure FlS.Down (s : FlS) : Prop where
  off : s.off = true
  free : s.lt = 0
  ok : s.Ok
theorem FlS.Up.step {s : FlS} {T : Nat} (h : s.Up T) (hf : s.fails = false) : s.step.Up T ∧ (s.step.armed = true → s.armed = true) ∧ s.mask = 4294967295 := by
  refine ⟨⟨by simp [FlS.step, hf, h.off], by rw [FlS.step_free]; exact h.free, FlS.step_ok h.ok, fun ha => ?_⟩, fun ha => ?_, by simp [FlS.mask, hf]⟩
  · simp only [FlS.step, hf, Bool.false_eq_true, if_false] at ha ⊢
    exact h.tear ha
  · simpa only [FlS.step, hf, Bool.false_eq_true, if_false] using ha
theorem FlS.Up.torn {s : FlS} {T : Nat} (h : s.Up T) (hf : s.fails = true) : s.step.Down ∧ s.armed = true ∧ s.mask = T := by
  have ha : s.armed = true := by
    unfold FlS.fails at hf
    rw [Bool.and_eq_true] at hf
    exact hf.1
  exact ⟨⟨by simp [FlS.step, hf], by rw [FlS.step_free]; exact h.free, FlS.step_ok h.ok⟩, ha, by simp [FlS.mask, hf, h.tear ha]⟩

/-- behind i words of a text, on what was there -/
structure MidT (B lb : List UInt8) (a i T : Nat) (A : Bool) (s : FlS) : Prop where
  len : s.B.length = B.length
  up : s.Up T
  arm : s.armed = true → A = true
  at' : ∀ j, j < B.length → s.B.getD j 0 = if a ≤ j ∧ j < a + i * 4 then lb.getD (j - a) 0 else B.getD j 0
/-- what is there, if the power goes in the n-th word -/
def tornW (B lb : List UInt8) (a n T j : Nat) : UInt8 :=
  if a ≤ j ∧ j < a + n * 4 then lb.getD (j - a) 0 else if a + n * 4 ≤ j ∧ j < a + n * 4 + 4 then dropByte (B.getD j 0) (lb.getD (j - a) 0) (T / 2 ^ (8 * (j - (a + n * 4)))) else B.getD j 0
theorem MidT.next {B lb : List UInt8} {a i T : Nat} {A : Bool} {s : FlS} (h : MidT B lb a i T A s) (hf : s.fails = false) (hi : (i + 1) * 4 ≤ lb.length) (hl : a + lb.length ≤ B.length) (hw : ∀ j, j < lb.length → B.getD (a + j) 0 &&& lb.getD j 0 = lb.getD j 0) :
    s.wordErr (a + i * 4) (word4 lb i) = 0 ∧ MidT B lb a (i + 1) T A (s.word (a + i * 4) (word4 lb i)) := by
  obtain ⟨hu, ha, hm⟩ := h.up.step hf
  have hd : ∀ k, k < 4 → dropByte (s.B.getD (a + i * 4 + k) 0) ((word4 lb i).getD k 0) (s.mask / 2 ^ (8 * k)) = lb.getD (i * 4 + k) 0 := by
    intro k hk
    rw [hm, dropByte_full _ _ _ hk, word4_getD _ _ _ hk, h.at' _ (by omega), if_neg (by omega), Nat.add_assoc]
    exact hw _ (by omega)
  constructor
  · unfold FlS.wordErr
    rw [hu.off, badK_false _ _ _ _ _ (fun k hk => by rw [hd k hk, word4_getD _ _ _ hk])]
    rfl
  · refine ⟨by rw [FlS.word_length, h.len], ⟨hu.off, hu.free, FlS.word_ok h.up.ok _ _, hu.tear⟩, fun c => h.arm (ha c), fun j hj => ?_⟩
    show (progK s.B (a + i * 4) (word4 lb i) s.mask 4).getD j 0 = _
    rw [progK_getD _ _ _ _ _ (by rw [h.len]; omega)]
    by_cases h1 : a + i * 4 ≤ j ∧ j < a + i * 4 + 4
    · rw [if_pos h1, if_pos (by omega)]
      have := hd (j - (a + i * 4)) (by omega)
      rw [show a + i * 4 + (j - (a + i * 4)) = j by omega, show i * 4 + (j - (a + i * 4)) = j - a by omega] at this
      exact this
    · rw [if_neg h1, h.at' j hj]
      by_cases h2 : a ≤ j ∧ j < a + i * 4
      · rw [if_pos h2, if_pos (by omega)]
      · rw [if_neg h2, if_neg (by omega)]
theorem MidT.tear {B lb : List UInt8} {a i T : Nat} {A : Bool} {s : FlS} (h : MidT B lb a i T A s) (hf : s.fails = true) (hi : (i + 1) * 4 ≤ lb.length) (hl : a + lb.length ≤ B.length) :
    s.wordErr (a + i * 4) (word4 lb i) = 5 ∧ (s.word (a + i * 4) (word4 lb i)).Down ∧ A = true ∧ ∀ j, j < B.length → (s.word (a + i * 4) (word4 lb i)).B.getD j 0 = tornW B lb a i T j := by
  obtain ⟨hu, ha, hm⟩ := h.up.torn hf
  refine ⟨by unfold FlS.wordErr; rw [if_pos hu.off], ⟨hu.off, hu.free, FlS.word_ok h.up.ok _ _⟩, h.arm ha, fun j hj => ?_⟩
  show (progK s.B (a + i * 4) (word4 lb i) s.mask 4).getD j 0 = _
  rw [progK_getD _ _ _ _ _ (by rw [h.len]; omega), hm, h.at' j hj]
  unfold tornW
  by_cases h1 : a + i * 4 ≤ j ∧ j < a + i * 4 + 4
  · rw [if_pos h1, if_neg (by omega), if_neg (by omega), if_pos h1, word4_getD _ _ _ (by omega), show i * 4 + (j - (a + i * 4)) = j - a by omega]
  · rw [if_neg h1, if_neg h1]
theorem MidT.run {B lb : List UInt8} {a T : Nat} {A : Bool} (hl : a + lb.length ≤ B.length) (hw : ∀ j, j < lb.length → B.getD (a + j) 0 &&& lb.getD j 0 = lb.getD j 0) : ∀ (r i : Nat) (s : FlS), MidT B lb a i T A s → (i + r) * 4 ≤ lb.length →
    ((FlS.progW lb a r i s).2 = 0 ∧ MidT B lb a (i + r) T A (FlS.progW lb a r i s).1) ∨
    ((FlS.progW lb a r i s).2 = 5 ∧ (FlS.progW lb a r i s).1.Down ∧ A = true ∧ ∃ n, n < i + r ∧ ∀ j, j < B.length → (FlS.progW lb a r i s).1.B.getD j 0 = tornW B lb a n T j) := by
  intro r
  induction r with
  | zero => intro i s h _; exact .inl ⟨rfl, h⟩
  | succ r ih =>
    intro i s h hi
    by_cases hf : s.fails = true
    · obtain ⟨h1, h2, h3, h4⟩ := h.tear hf (by omega) hl
      unfold FlS.progW
      rw [if_neg (by rw [h1]; omega)]
      exact .inr ⟨h1, h2, h3, i, by omega, h4⟩
    · obtain ⟨h1, h2⟩ := h.next (by simpa using hf) (by omega) hl hw
      unfold FlS.progW
      rw [if_pos h1]
      have := ih (i + 1) _ h2 (by omega)
      rw [show i + (r + 1) = i + 1 + r by omega]
      exact this
/-- what is programmed is there, or the power has gone in a word -/
theorem up_prog {s : FlS} {T : Nat} (h : s.Up T) (a : Nat) (lb : List UInt8) (h4 : lb.length % 4 = 0) (hl : a + lb.length ≤ s.B.length) (hw : ∀ j, j < lb.length → s.B.getD (a + j) 0 &&& lb.getD j 0 = lb.getD j 0) :
    ((s.prog a lb).2 = 0 ∧ (s.prog a lb).1.Up T ∧ ((s.prog a lb).1.armed = true → s.armed = true) ∧ ∀ j, j < s.B.length → (s.prog a lb).1.B.getD j 0 = if a ≤ j ∧ j < a + lb.length then lb.getD (j - a) 0 else s.B.getD j 0) ∨
    ((s.prog a lb).2 = 5 ∧ (s.prog a lb).1.Down ∧ s.armed = true ∧ ∃ n, n < lb.length / 4 ∧ ∀ j, j < s.B.length → (s.prog a lb).1.B.getD j 0 = tornW s.B lb a n T j) := by
  unfold FlS.prog
  rw [if_neg (by simp [h.off]), if_pos hl]
  rcases MidT.run hl hw (lb.length / 4) 0 s ⟨rfl, h, fun c => c, fun j hj => by rw [if_neg (by omega)]⟩ (by omega) with ⟨h1, h2⟩ | ⟨h1, h2, h3, n, hn, h5⟩
  · refine .inl ⟨h1, h2.up, h2.arm, fun j hj => ?_⟩
    rw [h2.at' j hj, show (0 + lb.length / 4) * 4 = lb.length by omega]
  · exact .inr ⟨h1, h2, h3, n, by omega, h5⟩
theorem eraK_any (B : List UInt8) (page m A : Nat) (hA : page * 256 = A) (k : Nat) : A + k ≤ B.length → ∀ j, (eraK B page m k).getD j 0 = if A ≤ j ∧ j < A + k ∧ m / 2 ^ ((j - A) % 32) % 2 = 1 then 255 else B.getD j 0 := by
  induction k with
  | zero =>
    intro _ j
    rw [if_neg (by omega)]
    simp only [eraK]
  | succ k ih =>
    intro h j
    have ih := ih (by omega) j
    have hl := eraK_length B page m k
    unfold eraK
    rw [hA]
    clear hA
    by_cases hm : m / 2 ^ (k % 32) % 2 = 1
    · rw [if_pos hm]
      simp only [List.getD_eq_getElem?_getD] at ih ⊢
      by_cases hj : j = A + k
      · subst hj
        rw [List.getElem?_set_self (by omega), if_pos ⟨by omega, by omega, by rw [show A + k - A = k by omega]; exact hm⟩]
        rfl
      · rw [List.getElem?_set_ne (by omega), ih]
        clear ih hl
        by_cases h2 : A ≤ j ∧ j < A + k ∧ m / 2 ^ ((j - A) % 32) % 2 = 1
        · rw [if_pos h2, if_pos ⟨h2.1, by omega, h2.2.2⟩]
        · rw [if_neg h2, if_neg fun c => h2 ⟨c.1, by omega, c.2.2⟩]
    · rw [if_neg hm, ih]
      by_cases h2 : A ≤ j ∧ j < A + k ∧ m / 2 ^ ((j - A) % 32) % 2 = 1
      · rw [if_pos h2, if_pos ⟨h2.1, by omega, h2.2.2⟩]
      · rw [if_neg h2, if_neg fun c => ?_]
        by_cases hj : j = A + k
        · rw [hj, show A + k - A = k by omega] at c
          exact hm c.2.2
        · exact h2 ⟨c.1, by omega, c.2.2⟩
/-- a page is erased, or the power has gone in it -/
theorem up_era {s : FlS} {T : Nat} (h : s.Up T) (page A : Nat) (hA : page * 256 = A) (hp : page < s.worn.length) :
    ((s.era page).2 = 0 ∧ (s.era page).1.Up T ∧ ((s.era page).1.armed = true → s.armed = true) ∧ ∀ j, j < s.B.length → (s.era page).1.B.getD j 0 = if A ≤ j ∧ j < A + 256 then 255 else s.B.getD j 0) ∨
    ((s.era page).2 = 5 ∧ (s.era page).1.Down ∧ s.armed = true ∧ ∀ j, j < s.B.length → (s.era page).1.B.getD j 0 = if A ≤ j ∧ j < A + 256 ∧ T / 2 ^ ((j - A) % 32) % 2 = 1 then 255 else s.B.getD j 0) := by
  have hpg := h.ok.pages
  unfold FlS.era
  rw [if_neg (by simp [h.off]), if_neg (by omega)]
  by_cases hf : s.fails = true
  · obtain ⟨hu, ha, hm⟩ := h.torn hf
    refine .inr ⟨by rw [if_pos hu.off], ⟨hu.off, hu.free, FlS.eraS_ok h.ok page⟩, ha, fun j hj => ?_⟩
    show (eraK s.B page s.mask 256).getD j 0 = _
    rw [hm]
    exact eraK_any s.B page _ A hA 256 (by omega) j
  · obtain ⟨hu, ha, hm⟩ := h.step (by simpa using hf)
    refine .inl ⟨by rw [if_neg (by simp [hu.off])], ⟨hu.off, hu.free, FlS.eraS_ok h.ok page, hu.tear⟩, ha, fun j hj => ?_⟩
    show (eraK s.B page s.mask 256).getD j 0 = _
    rw [hm]
    have := eraK_getD s.B page _ ones32 256 (by omega) j
    rw [hA] at this
    exact this
/-- a page's bytes, behind a writing in which the power has gone -/
inductive PgTorn (T : Nat) (D b D' : List UInt8) : Prop
  | zero (h : ∀ i, i < 160 → D'.getD i 0 = if i < 4 then dropByte (D.getD i 0) 0 (T / 2 ^ (8 * i)) else D.getD i 0) : PgTorn T D b D'
  | era (h : ∀ i, i < 160 → D'.getD i 0 = if T / 2 ^ (i % 32) % 2 = 1 then 255 else if i < 4 then 0 else D.getD i 0) : PgTorn T D b D'
  | prog (n : Nat) (hn : n < 40) (h : ∀ i, i < 160 → D'.getD i 0 = tornAt b n T i) : PgTorn T D b D'
theorem pg_getD (s : FlS) (k i : Nat) (hi : i < 160) : (s.pg k).getD i 0 = s.B.getD (256 * k + i) 0 := by
  rw [List.getD_eq_getElem?_getD, List.getD_eq_getElem?_getD, pg_get, if_pos hi]
theorem zero4 (j : Nat) : ([0, 0, 0, 0] : List UInt8).getD j 0 = 0 := by
  match j with
  | 0 => rfl
  | 1 => rfl
  | 2 => rfl
  | 3 => rfl
  | n + 4 => rfl
/-- a page is written, or the power has gone -/
theorem up_write {s : FlS} {T : Nat} (h : s.Up T) (to A : Nat) (hA : to * 256 = A) (b : List UInt8) (hb : b.length = 160) (ht : to < s.worn.length) :
    ((s.write to b).1.B.length = s.B.length ∧ (s.write to b).1.worn.length = s.worn.length ∧ ∀ j, j < s.B.length → ¬ (A ≤ j ∧ j < A + 256) → (s.write to b).1.B.getD j 0 = s.B.getD j 0) ∧
    (((s.write to b).2 = 0 ∧ (s.write to b).1.Up T ∧ ((s.write to b).1.armed = true → s.armed = true) ∧ (s.write to b).1.pg to = b) ∨
    ((s.write to b).2 = 5 ∧ (s.write to b).1.Down ∧ s.armed = true ∧ PgTorn T (s.pg to) b ((s.write to b).1.pg to))) := by
  have hpg := h.ok.pages
  have hq : 256 * to = A := by rw [Nat.mul_comm]; exact hA
  have hAl : A + 256 ≤ s.B.length := by omega
  have he0 : s.write to b = if (s.prog A [0, 0, 0, 0]).2 ≠ 0 then s.prog A [0, 0, 0, 0]
      else if ((s.prog A [0, 0, 0, 0]).1.era to).2 ≠ 0 then (s.prog A [0, 0, 0, 0]).1.era to
      else ((s.prog A [0, 0, 0, 0]).1.era to).1.prog A b := by unfold FlS.write; rw [hA]
  have l1 := FlS.prog_length s (A) [0, 0, 0, 0]
  have w1 := FlS.prog_worn s (A) [0, 0, 0, 0]
  have h4 : ([0, 0, 0, 0] : List UInt8).length = 4 := rfl
  rcases up_prog h (A) [0, 0, 0, 0] rfl (by omega) (fun j hj => by rw [zero4]; exact and_zero8 _) with ⟨a1, a2, aa, a3⟩ | ⟨a1, a2, aa, n, hn, a3⟩
  · rw [h4] at a3
    have l2 := FlS.era_length (s.prog (A) [0, 0, 0, 0]).1 to
    have w2 := FlS.era_wornlen (s.prog (A) [0, 0, 0, 0]).1 to
    rcases up_era a2 to A hA (by rw [w1]; exact ht) with ⟨b1, b2, bb, b3⟩ | ⟨b1, b2, bb, b3⟩
    · have he : s.write to b = ((s.prog (A) [0, 0, 0, 0]).1.era to).1.prog (A) b := by
        rw [he0]
        rw [if_neg (by simp [a1]), if_neg (by simp [b1])]
      have l3 := FlS.prog_length ((s.prog (A) [0, 0, 0, 0]).1.era to).1 (A) b
      have w3 := FlS.prog_worn ((s.prog (A) [0, 0, 0, 0]).1.era to).1 (A) b
      have hB2 : ∀ j, j < s.B.length → ((s.prog (A) [0, 0, 0, 0]).1.era to).1.B.getD j 0 = if A ≤ j ∧ j < A + 256 then 255 else s.B.getD j 0 := fun j hj => by
        rw [b3 j (by omega)]
        by_cases c : A ≤ j ∧ j < A + 256
        · rw [if_pos c, if_pos c]
        · rw [if_neg c, if_neg c, a3 j hj, if_neg (by omega)]
      rw [he]
      rcases up_prog b2 (A) b (by omega) (by omega) (fun j hj => by rw [hB2 _ (by omega), if_pos (by omega)]; exact and_ones8 _) with ⟨c1, c2, cc, c3⟩ | ⟨c1, c2, cc, n, hn, c3⟩
      · refine ⟨⟨by rw [l3, l2, l1], by rw [w3, w2, w1], fun j hj c => ?_⟩, .inl ⟨c1, c2, fun z => aa (bb (cc z)), pg_new to b hb (by omega) fun j j1 j2 => ?_⟩⟩
        · rw [c3 j (by omega), if_neg (by omega), hB2 j hj, if_neg c]
        · rw [c3 j (by omega), if_pos (by omega), hq]
      · refine ⟨⟨by rw [l3, l2, l1], by rw [w3, w2, w1], fun j hj c => ?_⟩, .inr ⟨c1, c2, aa (bb cc), .prog n (by omega) fun i hi => ?_⟩⟩
        · rw [c3 j (by omega)]
          unfold tornW
          rw [if_neg (by omega), if_neg (by omega), hB2 j hj, if_neg c]
        · rw [pg_getD _ _ _ hi, c3 _ (by omega)]
          unfold tornW tornAt
          rw [hq, hB2 _ (by omega), if_pos (show A ≤ A + i ∧ A + i < A + 256 by omega), show A + i - A = i by omega]
          by_cases d1 : i < n * 4
          · rw [if_pos d1, if_pos (by omega)]
          · rw [if_neg d1, if_neg (by omega)]
            by_cases d2 : i < n * 4 + 4
            · rw [if_pos d2, if_pos (by omega), show A + i - (A + n * 4) = i - n * 4 by omega]
            · rw [if_neg d2, if_neg (by omega)]
    · have he : s.write to b = (s.prog (A) [0, 0, 0, 0]).1.era to := by
        rw [he0]
        rw [if_neg (by simp [a1]), if_pos (by simp [b1])]
      rw [he]
      refine ⟨⟨by rw [l2, l1], by rw [w2, w1], fun j hj c => ?_⟩, .inr ⟨b1, b2, aa bb, .era fun i hi => ?_⟩⟩
      · rw [b3 j (by omega), if_neg (by omega), a3 j hj, if_neg (by omega)]
      · rw [pg_getD _ _ _ hi, pg_getD _ _ _ hi, b3 _ (by omega), hq, a3 _ (by omega), show A + i - A = i by omega, zero4]
        by_cases d1 : T / 2 ^ (i % 32) % 2 = 1
        · rw [if_pos d1, if_pos ⟨by omega, by omega, d1⟩]
        · rw [if_neg d1, if_neg (fun c => d1 c.2.2)]
          by_cases d2 : i < 4
          · rw [if_pos d2, if_pos (by omega)]
          · rw [if_neg d2, if_neg (by omega)]
  · rw [h4] at hn
    have hn0 : n = 0 := by omega
    subst hn0
    have he : s.write to b = s.prog (A) [0, 0, 0, 0] := by
      rw [he0]
      rw [if_pos (by simp [a1])]
    rw [he]
    refine ⟨⟨l1, by rw [w1], fun j hj c => ?_⟩, .inr ⟨a1, a2, aa, .zero fun i hi => ?_⟩⟩
    · rw [a3 j hj]
      unfold tornW
      rw [if_neg (by omega), if_neg (by omega)]
    · rw [pg_getD _ _ _ hi, pg_getD _ _ _ hi, a3 _ (by omega), hq]
      unfold tornW
      rw [if_neg (by omega), zero4]
      by_cases d2 : i < 4
      · rw [if_pos d2, if_pos (by omega), show A + i - (A + 0 * 4) = i by omega]
      · rw [if_neg d2, if_neg (by omega)]
end Go.Proofs.Ytjmgnfpcieofkaa
