/- LAID TOGETHER: FlashTearsMath, FlMath, FlMath2, FlMath3, Dv13. -/
import Derived.Test.YtgmpmlneoiagdaaGreatDoorGFl
import Derived.Test.YtgmpmlneoiagdaaGreatDoorGBk
import Derived.Test.YtgmpmlneoiagdaaGreatDoorSetMath
import Derived.Test.YtgmpmlneoiagdaaGreatDoorGRecB
import Derived.Test.YtgmpmlneoiagdaaGreatDoorGTr
import Derived.Test.YtgmpmlneoiagdaaGreatDoorGCrc
/- Flash whose power goes in a step of programming an erased page: what it holds then, and behind another programming. -/
namespace Go.Proofs.YtgmpmlneoiagdaaGreatDoor
set_option linter.unusedVariables false

theorem dropByte_full (was want : UInt8) (k : Nat) (hk : k < 4) : dropByte was want (4294967295 / 2 ^ (8 * k)) = was &&& want := by
  apply UInt8.toNat_inj.1
  have e : 4294967295 / 2 ^ (8 * k) % 256 = 255 := by
    rcases k with _ | _ | _ | _ | k
    · rfl
    · rfl
    · rfl
    · rfl
    · omega
  rw [dropByte_toNat, e, UInt8.toNat_and]
  simp
theorem progK_getD (B : List UInt8) (a : Nat) (lb : List UInt8) (mask : Nat) : ∀ (k : Nat), a + k ≤ B.length → ∀ j, (progK B a lb mask k).getD j 0 = if a ≤ j ∧ j < a + k then dropByte (B.getD j 0) (lb.getD (j - a) 0) (mask / 2 ^ (8 * (j - a))) else B.getD j 0 := by
  intro k
  induction k with
  | zero => intro h j; rw [if_neg (by omega)]; rfl
  | succ k ih =>
    intro h j
    have ih := ih (by omega) j
    have hl := progK_length B a lb mask k
    simp only [progK, List.getD_eq_getElem?_getD] at ih ⊢
    by_cases hj : j = a + k
    · subst hj
      rw [List.getElem?_set_self (by omega), if_pos (by omega), Nat.add_sub_cancel_left]
      rfl
    · rw [List.getElem?_set_ne (by omega), ih]
      by_cases h2 : a ≤ j ∧ j < a + k
      · rw [if_pos h2, if_pos (by omega)]
      · rw [if_neg h2, if_neg (by omega)]
theorem badK_false (B : List UInt8) (a : Nat) (lb : List UInt8) (mask : Nat) : ∀ (k : Nat), (∀ i, i < k → dropByte (B.getD (a + i) 0) (lb.getD i 0) (mask / 2 ^ (8 * i)) = lb.getD i 0) → badK B a lb mask k = false := by
  intro k
  induction k with
  | zero => intro _; rfl
  | succ k ih =>
    intro h
    unfold badK
    rw [ih (fun i hi => h i (by omega)), h k (by omega)]
    simp

/-- the word of a text -/
abbrev word4 (lb : List UInt8) (i : Nat) : List UInt8 := (lb.drop (i * 4)).take 4
theorem word4_getD (lb : List UInt8) (i k : Nat) (hk : k < 4) : (word4 lb i).getD k 0 = lb.getD (i * 4 + k) 0 := by
  simp [word4, List.getD_eq_getElem?_getD, hk]

/-- behind i words that were programmed whole, on what an erased page or one that was torn holds -/
structure Mid (lb : List UInt8) (was : Nat → UInt8) (i : Nat) (s : FlS) : Prop where
  len : s.B.length = 256
  off : s.off = false
  at' : ∀ j, j < 256 → s.B.getD j 0 = if j < i * 4 then lb.getD j 0 else was j

theorem Mid.step {lb : List UInt8} {was : Nat → UInt8} {i : Nat} {s : FlS} (h : Mid lb was i s) (hf : s.fails = false) (hi : (i + 1) * 4 ≤ lb.length) (hl : lb.length ≤ 256) (hw : ∀ j, j < lb.length → was j &&& lb.getD j 0 = lb.getD j 0) :
    s.wordErr (0 + i * 4) (word4 lb i) = 0 ∧ Mid lb was (i + 1) (s.word (0 + i * 4) (word4 lb i)) := by
  have hm : s.mask = 4294967295 := by simp [FlS.mask, hf]
  have ho : s.step.off = false := by simp [FlS.step, hf, h.off]
  have hd : ∀ k, k < 4 → dropByte (s.B.getD (0 + i * 4 + k) 0) ((word4 lb i).getD k 0) (s.mask / 2 ^ (8 * k)) = lb.getD (i * 4 + k) 0 := by
    intro k hk
    rw [hm, dropByte_full _ _ _ hk, word4_getD _ _ _ hk, h.at' _ (by omega), if_neg (by omega), Nat.zero_add]
    exact hw _ (by omega)
  constructor
  · unfold FlS.wordErr
    rw [ho, badK_false _ _ _ _ _ (fun k hk => by rw [hd k hk, word4_getD _ _ _ hk])]
    rfl
  · refine ⟨by rw [FlS.word_length, h.len], ho, fun j hj => ?_⟩
    show (progK s.B (0 + i * 4) (word4 lb i) s.mask 4).getD j 0 = _
    rw [progK_getD _ _ _ _ _ (by rw [h.len]; omega)]
    by_cases h1 : 0 + i * 4 ≤ j ∧ j < 0 + i * 4 + 4
    · rw [if_pos h1, if_pos (by omega)]
      have := hd (j - (0 + i * 4)) (by omega)
      rw [show 0 + i * 4 + (j - (0 + i * 4)) = j by omega, show i * 4 + (j - (0 + i * 4)) = j by omega] at this
      exact this
    · rw [if_neg h1, h.at' j hj]
      by_cases h2 : j < i * 4
      · rw [if_pos h2, if_pos (by omega)]
      · rw [if_neg h2, if_neg (by omega)]

theorem Mid.run {lb : List UInt8} {was : Nat → UInt8} (hl : lb.length ≤ 256) (hw : ∀ j, j < lb.length → was j &&& lb.getD j 0 = lb.getD j 0) : ∀ (r i : Nat) (s : FlS), Mid lb was i s → s.armed = false → (i + r) * 4 ≤ lb.length →
    (FlS.progW lb 0 r i s).2 = 0 ∧ Mid lb was (i + r) (FlS.progW lb 0 r i s).1 := by
  intro r
  induction r with
  | zero => intro i s h _ _; exact ⟨rfl, h⟩
  | succ r ih =>
    intro i s h ha hi
    have hf : s.fails = false := by simp [FlS.fails, ha]
    obtain ⟨h1, h2⟩ := h.step hf (by omega) hl hw
    unfold FlS.progW
    rw [if_pos h1]
    have ha2 : (s.word (0 + i * 4) (word4 lb i)).armed = false := by simp [FlS.word, FlS.step, hf, ha]
    have := ih (i + 1) _ h2 ha2 (by omega)
    rw [show i + (r + 1) = i + 1 + r by omega]
    exact this

end Go.Proofs.YtgmpmlneoiagdaaGreatDoor

/- Flash whose power stays: what is programmed and erased is there. No Go function is spoken of. -/
namespace Go.Proofs.YtgmpmlneoiagdaaGreatDoor
set_option linter.unusedVariables false
set_option linter.unusedSimpArgs false

/-- with power, and none that goes -/
structure FlS.Live (s : FlS) : Prop where
  off : s.off = false
  armed : s.armed = false
  free : s.lt = 0
  ok : s.Ok
theorem FlS.Live.fails {s : FlS} (h : s.Live) : s.fails = false := by simp [FlS.fails, h.armed]
theorem FlS.Live.step {s : FlS} (h : s.Live) : s.step.Live := by
  have hf := h.fails
  refine ⟨by simp [FlS.step, hf, h.off], by simp [FlS.step, hf, h.armed], by rw [FlS.step_free]; exact h.free, FlS.step_ok h.ok⟩
theorem FlS.Live.new (k : Nat) (h1 : 1 ≤ k) (h2 : k ≤ 64) : (FlS.new k).Live := ⟨rfl, rfl, rfl, FlS.new_ok k h1 h2⟩

/-- behind i words of a text, on what was there -/
structure MidA (B : List UInt8) (lb : List UInt8) (a i : Nat) (s : FlS) : Prop where
  len : s.B.length = B.length
  live : s.Live
  at' : ∀ j, j < B.length → s.B.getD j 0 = if a ≤ j ∧ j < a + i * 4 then lb.getD (j - a) 0 else B.getD j 0
theorem FlS.Live.word {s : FlS} (h : s.Live) (a : Nat) (lb : List UInt8) : (s.word a lb).Live :=
  ⟨h.step.off, h.step.armed, h.step.free, FlS.word_ok h.ok a lb⟩
theorem MidA.next {B lb : List UInt8} {a i : Nat} {s : FlS} (h : MidA B lb a i s) (hi : (i + 1) * 4 ≤ lb.length) (hl : a + lb.length ≤ B.length) (hw : ∀ j, j < lb.length → B.getD (a + j) 0 &&& lb.getD j 0 = lb.getD j 0) :
    s.wordErr (a + i * 4) (word4 lb i) = 0 ∧ MidA B lb a (i + 1) (s.word (a + i * 4) (word4 lb i)) := by
  have hf := h.live.fails
  have hm : s.mask = 4294967295 := by simp [FlS.mask, hf]
  have hd : ∀ k, k < 4 → dropByte (s.B.getD (a + i * 4 + k) 0) ((word4 lb i).getD k 0) (s.mask / 2 ^ (8 * k)) = lb.getD (i * 4 + k) 0 := by
    intro k hk
    rw [hm, dropByte_full _ _ _ hk, word4_getD _ _ _ hk, h.at' _ (by omega), if_neg (by omega), Nat.add_assoc]
    exact hw _ (by omega)
  constructor
  · unfold FlS.wordErr
    rw [h.live.step.off, badK_false _ _ _ _ _ (fun k hk => by rw [hd k hk, word4_getD _ _ _ hk])]
    rfl
  · refine ⟨by rw [FlS.word_length, h.len], h.live.word _ _, fun j hj => ?_⟩
    show (progK s.B (a + i * 4) (word4 lb i) s.mask 4).getD j 0 = _
    rw [progK_getD _ _ _ _ _ (by rw [h.len]; omega)]
    by_cases h1 : a + i * 4 ≤ j ∧ j < a + i * 4 + 4
    · rw [if_pos h1, if_pos (by omega)]
      have := hd (j - (a + i * 4)) (by omega)
      rw [show a + i * 4 + (j - (a + i * 4)) = j by omega, show i * 4 + (j - (a + i * 4)) = j - a by omega] at this
      exact this
    · rw [if_neg h1, h.at' j hj]
      by_cases h2 : a ≤ j ∧ j < a + i * 4
      · rw [if_pos h2, if_pos (by omega)]
      · rw [if_neg h2, if_neg (by omega)]
theorem MidA.run {B lb : List UInt8} {a : Nat} (hl : a + lb.length ≤ B.length) (hw : ∀ j, j < lb.length → B.getD (a + j) 0 &&& lb.getD j 0 = lb.getD j 0) : ∀ (r i : Nat) (s : FlS), MidA B lb a i s → (i + r) * 4 ≤ lb.length →
    (FlS.progW lb a r i s).2 = 0 ∧ MidA B lb a (i + r) (FlS.progW lb a r i s).1 := by
  intro r
  induction r with
  | zero => intro i s h _; exact ⟨rfl, h⟩
  | succ r ih =>
    intro i s h hi
    obtain ⟨h1, h2⟩ := h.next (by omega) hl hw
    unfold FlS.progW
    rw [if_pos h1]
    have := ih (i + 1) _ h2 (by omega)
    rw [show i + (r + 1) = i + 1 + r by omega]
    exact this
/-- what is programmed is there, if no bit would have to rise -/
theorem live_prog {s : FlS} (h : s.Live) (a : Nat) (lb : List UInt8) (h4 : lb.length % 4 = 0) (hl : a + lb.length ≤ s.B.length) (hw : ∀ j, j < lb.length → s.B.getD (a + j) 0 &&& lb.getD j 0 = lb.getD j 0) :
    (s.prog a lb).2 = 0 ∧ (s.prog a lb).1.Live ∧ ∀ j, j < s.B.length → (s.prog a lb).1.B.getD j 0 = if a ≤ j ∧ j < a + lb.length then lb.getD (j - a) 0 else s.B.getD j 0 := by
  unfold FlS.prog
  rw [if_neg (by simp [h.off]), if_pos hl]
  obtain ⟨h1, h2⟩ := MidA.run hl hw (lb.length / 4) 0 s ⟨rfl, h, fun j hj => by rw [if_neg (by omega)]⟩ (by omega)
  refine ⟨h1, h2.live, fun j hj => ?_⟩
  rw [h2.at' j hj, show (0 + lb.length / 4) * 4 = lb.length by omega]
theorem eraK_getD (B : List UInt8) (page m : Nat) (hm : ∀ i, i < 32 → m / 2 ^ i % 2 = 1) (k : Nat) : page * 256 + k ≤ B.length → ∀ j, (eraK B page m k).getD j 0 = if page * 256 ≤ j ∧ j < page * 256 + k then 255 else B.getD j 0 := by
  induction k with
  | zero =>
    intro _ j
    rw [if_neg (by omega)]
    simp only [eraK]
  | succ k ih =>
    intro h j
    have ih := ih (by omega) j
    have hl := eraK_length B page m k
    unfold eraK
    rw [if_pos (hm _ (Nat.mod_lt _ (by decide)))]
    simp only [List.getD_eq_getElem?_getD] at ih ⊢
    by_cases hj : j = page * 256 + k
    · subst hj
      rw [List.getElem?_set_self (by omega), if_pos (by omega)]
      rfl
    · rw [List.getElem?_set_ne (by omega), ih]
      clear ih hl
      by_cases h2 : page * 256 ≤ j ∧ j < page * 256 + k
      · rw [if_pos h2, if_pos (by omega)]
      · rw [if_neg h2, if_neg (by omega)]
theorem ones32 : ∀ i, i < 32 → 4294967295 / 2 ^ i % 2 = 1 := by
  set_option maxRecDepth 100000 in decide +kernel
/-- an erased page is all 255 -/
theorem live_era {s : FlS} (h : s.Live) (page : Nat) (hp : page < s.worn.length) :
    (s.era page).2 = 0 ∧ (s.era page).1.Live ∧ ∀ j, j < s.B.length → (s.era page).1.B.getD j 0 = if page * 256 ≤ j ∧ j < page * 256 + 256 then 255 else s.B.getD j 0 := by
  have hm : s.mask = 4294967295 := by simp [FlS.mask, h.fails]
  have hpg := h.ok.pages
  unfold FlS.era
  rw [if_neg (by simp [h.off]), if_neg (by omega)]
  refine ⟨by rw [if_neg (by simp [h.step.off])], ⟨h.step.off, h.step.armed, h.step.free, FlS.eraS_ok h.ok page⟩, fun j hj => ?_⟩
  show (eraK s.B page s.mask 256).getD j 0 = _
  rw [hm]
  exact eraK_getD s.B page _ ones32 256 (by omega) j
theorem rows_aux {α : Type} {A B C F D K : Nat} (j : Nat) (x y : α) (hA : A = F + D) (hB : B = F + D + K) (hC : C = F + D + K) : (if A ≤ j ∧ j < B then x else if F ≤ j ∧ j < F + D then x else y) = if F ≤ j ∧ j < C then x else y := by
  subst hA hB hC
  by_cases c1 : F + D ≤ j ∧ j < F + D + K
  · rw [if_pos c1, if_pos (by omega)]
  · rw [if_neg c1]
    by_cases c2 : F ≤ j ∧ j < F + D
    · rw [if_pos c2, if_pos (by omega)]
    · rw [if_neg c2, if_neg (by omega)]
theorem rows_e2 (f k d : Nat) : (f + 1 + k) * d = f * d + d + k * d := by rw [Nat.add_mul, Nat.succ_mul]
theorem rows_if {α : Type} (first a k j : Nat) (x y : α) : (if (first + (a + 1)) * 256 ≤ j ∧ j < (first + (a + 1) + k) * 256 then x else if (first + a) * 256 ≤ j ∧ j < (first + a) * 256 + 256 then x else y) = if (first + a) * 256 ≤ j ∧ j < (first + a + (k + 1)) * 256 then x else y :=
  rows_aux (D := 256) (K := k * 256) j x y (Nat.succ_mul (first + a) 256) (rows_e2 (first + a) k 256) (by rw [show first + a + (k + 1) = first + a + 1 + k by omega]; exact rows_e2 (first + a) k 256)
theorem live_clr : ∀ (k : Nat) {s : FlS} (h : s.Live) (first a : Nat), first + a + k ≤ s.worn.length →
    (s.clr first a k).2 = 0 ∧ (s.clr first a k).1.Live ∧ (s.clr first a k).1.B.length = s.B.length ∧ ∀ j, j < s.B.length → (s.clr first a k).1.B.getD j 0 = if (first + a) * 256 ≤ j ∧ j < (first + a + k) * 256 then 255 else s.B.getD j 0
  | 0, s, h, first, a, _ => ⟨rfl, h, rfl, fun j hj => by rw [if_neg (by omega)]; rfl⟩
  | k + 1, s, h, first, a, hk => by
    obtain ⟨h1, h2, h3⟩ := live_era h (first + a) (by omega)
    have hB := FlS.era_length s (first + a)
    have hw := FlS.era_wornlen s (first + a)
    obtain ⟨g1, g2, g4, g3⟩ := live_clr k h2 first (a + 1) (by omega)
    unfold FlS.clr
    rw [if_pos h1]
    refine ⟨g1, g2, by rw [g4, hB], fun j hj => ?_⟩
    rw [g3 j (by omega), h3 j hj]
    exact rows_if first a k j _ _
theorem and_zero8 (x : UInt8) : x &&& 0 = 0 := by
  apply UInt8.toNat_inj.1
  rw [UInt8.toNat_and, UInt8.toNat_zero, Nat.and_zero]
theorem and_ones8 (x : UInt8) : 255 &&& x = x := by
  apply UInt8.toNat_inj.1
  rw [UInt8.toNat_and]
  have h := UInt8.toNat_lt x
  have e : (255 : UInt8).toNat = 2 ^ 8 - 1 := by decide +kernel
  rw [e, Nat.and_comm, Nat.and_two_pow_sub_one_eq_mod, Nat.mod_eq_of_lt h]
/-- a page is written -/
theorem live_write {s : FlS} (h : s.Live) (to : Nat) (b : List UInt8) (hb : b.length = 160) (ht : to < s.worn.length) :
    (s.write to b).2 = 0 ∧ (s.write to b).1.Live ∧ (s.write to b).1.B.length = s.B.length ∧ ∀ j, j < s.B.length → (s.write to b).1.B.getD j 0 = if to * 256 ≤ j ∧ j < to * 256 + 160 then b.getD (j - to * 256) 0 else if to * 256 ≤ j ∧ j < to * 256 + 256 then 255 else s.B.getD j 0 := by
  have hpg := h.ok.pages
  obtain ⟨a1, a2, a3⟩ := live_prog h (to * 256) [0, 0, 0, 0] rfl (by simp; omega) (fun j hj => by
    have hz : ([0, 0, 0, 0] : List UInt8).getD j 0 = 0 := by
      match j with
      | 0 => rfl
      | 1 => rfl
      | 2 => rfl
      | 3 => rfl
      | n + 4 => rfl
    rw [hz]; exact and_zero8 _)
  have l1 := FlS.prog_length s (to * 256) [0, 0, 0, 0]
  have w1 := FlS.prog_worn s (to * 256) [0, 0, 0, 0]
  obtain ⟨b1, b2, b3⟩ := live_era a2 to (by rw [w1]; exact ht)
  have l2 := FlS.era_length (s.prog (to * 256) [0, 0, 0, 0]).1 to
  obtain ⟨c1, c2, c3⟩ := live_prog b2 (to * 256) b (by omega) (by omega) (fun j hj => by
    rw [b3 _ (by omega), if_pos (by omega)]; exact and_ones8 _)
  have l3 := FlS.prog_length ((s.prog (to * 256) [0, 0, 0, 0]).1.era to).1 (to * 256) b
  have he : s.write to b = ((s.prog (to * 256) [0, 0, 0, 0]).1.era to).1.prog (to * 256) b := by
    unfold FlS.write
    rw [if_neg (by simp [a1]), if_neg (by simp [b1])]
  rw [he]
  refine ⟨c1, c2, by rw [l3, l2, l1], fun j hj => ?_⟩
  rw [c3 j (by omega), hb]
  by_cases d1 : to * 256 ≤ j ∧ j < to * 256 + 160
  · rw [if_pos d1, if_pos d1]
  · rw [if_neg d1, if_neg d1, b3 j (by omega)]
    by_cases d2 : to * 256 ≤ j ∧ j < to * 256 + 256
    · rw [if_pos d2, if_pos d2]
    · rw [if_neg d2, if_neg d2, a3 j hj, if_neg (by simp; omega)]
end Go.Proofs.YtgmpmlneoiagdaaGreatDoor

/- What is saved on flash whose power stays is loaded again. No Go function is spoken of. -/
namespace Go.Proofs.YtgmpmlneoiagdaaGreatDoor
set_option linter.unusedVariables false
set_option linter.unusedSimpArgs false

theorem pg_get (s : FlS) (k i : Nat) : (s.pg k)[i]? = if i < 160 then s.B[256 * k + i]? else Option.none := by
  unfold FlS.pg
  rw [List.getElem?_take, List.getElem?_drop]
theorem get_of_getD {l m : List UInt8} {i j : Nat} (hi : i < l.length) (hj : j < m.length) (h : l.getD i 0 = m.getD j 0) : l[i]? = m[j]? := by
  rw [List.getElem?_eq_getElem hi, List.getElem?_eq_getElem hj]
  rw [List.getD_eq_getElem?_getD, List.getD_eq_getElem?_getD, List.getElem?_eq_getElem hi, List.getElem?_eq_getElem hj] at h
  exact congrArg some h
/-- a page that is not touched -/
theorem pg_same {s t : FlS} (k : Nat) (hl : t.B.length = s.B.length) (hk : 256 * k + 160 ≤ s.B.length) (h : ∀ j, 256 * k ≤ j → j < 256 * k + 160 → t.B.getD j 0 = s.B.getD j 0) : t.pg k = s.pg k := by
  apply List.ext_getElem?
  intro i
  rw [pg_get, pg_get]
  by_cases hi : i < 160
  · rw [if_pos hi, if_pos hi]
    exact get_of_getD (by omega) (by omega) (h _ (by omega) (by omega))
  · rw [if_neg hi, if_neg hi]
/-- a page that is written -/
theorem pg_new {t : FlS} (k : Nat) (b : List UInt8) (hb : b.length = 160) (hk : 256 * k + 160 ≤ t.B.length) (h : ∀ j, 256 * k ≤ j → j < 256 * k + 160 → t.B.getD j 0 = b.getD (j - 256 * k) 0) : t.pg k = b := by
  apply List.ext_getElem?
  intro i
  rw [pg_get]
  by_cases hi : i < 160
  · rw [if_pos hi]
    refine get_of_getD (by omega) (by omega) ?_
    rw [h _ (by omega) (by omega), show 256 * k + i - 256 * k = i by omega]
  · rw [if_neg hi, List.getElem?_eq_none (by omega)]
theorem best_two (s : FlS) : s.best 2 = if recErr (s.pg 1) = 0 ∧ ((if recErr (s.pg 0) = 0 then (readS (s.pg 0), 0, 0) else (zeroS, 0, 15) : RecS × Nat × Nat).2.2 = 15 ∨ (if recErr (s.pg 0) = 0 then (readS (s.pg 0), 0, 0) else (zeroS, 0, 15) : RecS × Nat × Nat).1.seq < (readS (s.pg 1)).seq) then (readS (s.pg 1), 1, 0) else if recErr (s.pg 0) = 0 then (readS (s.pg 0), 0, 0) else (zeroS, 0, 15) := by
  have h1 : s.best 1 = if recErr (s.pg 0) = 0 then (readS (s.pg 0), 0, 0) else (zeroS, 0, 15) := by
    show (if recErr (s.pg 0) = 0 ∧ ((s.best 0).2.2 = 15 ∨ (s.best 0).1.seq < (readS (s.pg 0)).seq) then (readS (s.pg 0), 0, 0) else s.best 0) = _
    by_cases h : recErr (s.pg 0) = 0
    · rw [if_pos ⟨h, .inl rfl⟩, if_pos h]
    · rw [if_neg (fun c => h c.1), if_neg h]; rfl
  show (if recErr (s.pg 1) = 0 ∧ ((s.best 1).2.2 = 15 ∨ (s.best 1).1.seq < (readS (s.pg 1)).seq) then (readS (s.pg 1), 1, 0) else s.best 1) = _
  rw [h1]
/-- what is written beyond the newest is the newest -/
theorem best_next {s t : FlS} {q : RecS} (hq : q.seq = (s.best 2).1.seq + 1) (he : recErr (recBytes q) = 0) (hr : readS (recBytes q) = q)
    (h0 : t.pg (if (s.best 2).2.2 = 0 then 1 - (s.best 2).2.1 else 0) = recBytes q) (h1 : t.pg (1 - (if (s.best 2).2.2 = 0 then 1 - (s.best 2).2.1 else 0)) = s.pg (1 - (if (s.best 2).2.2 = 0 then 1 - (s.best 2).2.1 else 0))) :
    t.best 2 = (q, (if (s.best 2).2.2 = 0 then 1 - (s.best 2).2.1 else 0), 0) := by
  rw [best_two t]
  rw [best_two s] at hq h0 h1 ⊢
  by_cases e0 : recErr (s.pg 0) = 0
  · simp only [if_pos e0] at hq h0 h1 ⊢
    by_cases e1 : recErr (s.pg 1) = 0 ∧ ((0 : Nat) = 15 ∨ (readS (s.pg 0)).seq < (readS (s.pg 1)).seq)
    · simp only [if_pos e1, if_true, Nat.sub_self, Nat.sub_zero] at hq h0 h1 ⊢
      rw [h0, h1, he, hr]
      simp only [if_true]
      rw [if_neg (by rintro ⟨_, h | h⟩ <;> omega)]
    · simp only [if_neg e1, if_true, Nat.sub_self, Nat.sub_zero] at hq h0 h1 ⊢
      rw [h0, h1, he, hr]
      simp only [if_pos e0]
      rw [if_pos ⟨trivial, .inr (by omega)⟩]
  · simp only [if_neg e0] at hq h0 h1 ⊢
    by_cases e1 : recErr (s.pg 1) = 0
    · simp only [e1, true_and, true_or, if_true, Nat.sub_self, Nat.sub_zero] at hq h0 h1 ⊢
      rw [h0, h1, he, hr]
      simp only [if_true]
      rw [if_neg (by rintro ⟨_, h | h⟩ <;> omega)]
    · simp only [e1, false_and, if_false, if_true, Nat.sub_self, Nat.sub_zero, show ((15 : Nat) = 0) = False by simp] at hq h0 h1 ⊢
      rw [h0, h1, he, hr]
      simp only [if_true]
      rw [if_neg (fun c => e1 c.1)]
theorem load_live {s : FlS} (h : s.Live) (hp : 2 ≤ s.worn.length) : s.load = s.best 2 := by
  have hpg := h.ok.pages
  unfold FlS.load
  rw [if_neg (by omega), if_neg (by simp [h.off])]
/-- what is saved is loaded -/
theorem fl_save {s : FlS} (h : s.Live) (hp : 2 ≤ s.worn.length) (r : RecS) (ok : r.Ok) (hr : r.right = true) (hs : s.load.1.seq + 1 < 4294967296) :
    (s.save r).2 = ({ r with seq := s.load.1.seq + 1 }, 0) ∧ (s.save r).1.Live ∧ (s.save r).1.B.length = s.B.length ∧ (s.save r).1.worn.length = s.worn.length ∧ (s.save r).1.load = ({ r with seq := s.load.1.seq + 1 }, s.to, 0) := by
  have hpg := h.ok.pages
  have hL := load_live h hp
  have hto := to_le s
  have h3 : ({ r with seq := s.load.1.seq + 1 } : RecS).right = true := hr
  have ok3 : ({ r with seq := s.load.1.seq + 1 } : RecS).Ok := ⟨hs, ok.floor, ok.bytes, ok.sum, ok.done, ok.init⟩
  have hi : r.init.length ≤ 128 := by
    simp only [RecS.right, decide_eq_true_eq] at hr
    exact hr.2.2.2.1
  have hb : (recBytes { r with seq := s.load.1.seq + 1 }).length = 160 := recBytes_len _ hi
  have he := recErr_bytes _ ok3 h3
  have hrd := read_bytes _ ok3 hi
  obtain ⟨w1, w2, w3, w4⟩ := live_write h s.to _ hb (by omega)
  have e15 : s.load.2.2 = 0 ∨ s.load.2.2 = 15 := by rw [hL]; exact best_err s 2
  have hsv : s.save r = ((s.write s.to (recBytes { r with seq := s.load.1.seq + 1 })).1, { r with seq := s.load.1.seq + 1 }, 0) := by
    unfold FlS.save
    rw [if_neg (by omega), if_neg (by omega), if_neg (by simp [h3]), if_neg (by simp [w1])]
  have ww : (s.write s.to (recBytes { r with seq := s.load.1.seq + 1 })).1.worn.length = s.worn.length := by
    have := w2.ok.pages
    omega
  rw [hsv]
  refine ⟨rfl, w2, w3, ww, ?_⟩
  show (s.write s.to (recBytes { r with seq := s.load.1.seq + 1 })).1.load = _
  rw [load_live w2 (by omega)]
  have hT : s.to = if (s.best 2).2.2 = 0 then 1 - (s.best 2).2.1 else 0 := by unfold FlS.to; rw [hL]
  rw [hT]
  refine best_next (s := s) (by rw [hL]) he hrd ?_ ?_
  · rw [← hT]
    refine pg_new _ _ hb (by omega) fun j j1 j2 => ?_
    rw [w4 j (by omega), if_pos (by omega), Nat.mul_comm s.to 256]
  · rw [← hT]
    refine pg_same _ w3 (by omega) fun j j1 j2 => ?_
    rw [w4 j (by omega), if_neg (by omega), if_neg (by omega)]
theorem recErr_erased : recErr (List.replicate 160 255) = 7 := by
  set_option maxRecDepth 100000 in decide +kernel
theorem new_load (n : Nat) (h : 2 ≤ n) : (FlS.new n).load = (zeroS, 0, 15) := by
  have hpg : ∀ k, k < 2 → (FlS.new n).pg k = List.replicate 160 255 := fun k hk => by
    unfold FlS.pg FlS.new
    rw [List.drop_replicate, List.take_replicate, show min 160 (n * 256 - 256 * k) = 160 by omega]
  have hl : (FlS.new n).B.length = n * 256 := by simp [FlS.new]
  unfold FlS.load
  rw [if_neg (by omega), if_neg (by simp [FlS.new]), best_two, hpg 0 (by omega), hpg 1 (by omega), recErr_erased]
  rfl
end Go.Proofs.YtgmpmlneoiagdaaGreatDoor

/- A keeper on flash whose power stays: what it remembers. No Go function is spoken of. -/
namespace Go.Proofs.YtgmpmlneoiagdaaGreatDoor
set_option linter.unusedVariables false
set_option linter.unusedSimpArgs false

/-- a keeper's record is what its flash tells -/
structure KL (s : FlS) (R : RecS) : Prop where
  live : s.Live
  worn : 34 ≤ s.worn.length
  load : s.load.1 = R
  ok : R.Ok
  right : R.right = true
theorem KL.pages {s : FlS} {R : RecS} (h : KL s R) : s.B.length = 256 * s.worn.length := h.live.ok.pages
/-- what is told is in the first two pages -/
theorem load_same {s t : FlS} (hs : s.Live) (ht : t.Live) (hp : 2 ≤ s.worn.length) (hl : t.B.length = s.B.length) (h : ∀ j, j < 512 → t.B.getD j 0 = s.B.getD j 0) : t.load = s.load := by
  have h1 := hs.ok.pages
  have h2 := ht.ok.pages
  rw [load_live hs hp, load_live ht (by omega), best_two, best_two, pg_same 0 hl (by omega) (fun j _ _ => h j (by omega)), pg_same 1 hl (by omega) (fun j _ _ => h j (by omega))]
theorem KL.new (n : Nat) (h : 34 ≤ n) (h2 : n ≤ 64) : KL (FlS.new n) zeroS :=
  ⟨FlS.Live.new n (by omega) h2, by simp [FlS.new]; exact h, by rw [new_load n (by omega)], zeroS_ok, by decide⟩
/-- a record is remembered -/
theorem KL.rem {s : FlS} {R : RecS} (h : KL s R) (hq : R.seq + 1 < 4294967296) (phase : UInt8) (done : Nat) (init : List UInt8) (hr : (R.put phase done init).right = true) :
    ∃ t, kRem s R phase done init = (t, { R.put phase done init with seq := R.seq + 1 }, 0) ∧ KL t { R.put phase done init with seq := R.seq + 1 } ∧ t.load.2.2 = 0 ∧ t.B.length = s.B.length ∧ t.worn.length = s.worn.length ∧ ∀ j, 512 ≤ j → j < s.B.length → t.B.getD j 0 = s.B.getD j 0 := by
  have hrr := hr
  simp only [RecS.right, decide_eq_true_eq] at hrr
  have hd : done ≤ 4096 := hrr.2.1
  have hi : init.length ≤ 128 := hrr.2.2.2.1
  have ok' : (R.put phase done init).Ok := put_ok h.ok phase done (by omega) init (by omega)
  have hw := h.worn
  obtain ⟨a1, a2, a3, a4, a5⟩ := fl_save h.live (by omega) (R.put phase done init) ok' hr (by rw [h.load]; exact hq)
  rw [h.load] at a1 a5
  have hpg := h.pages
  have hlow : ∀ j, 512 ≤ j → j < s.B.length → (s.save (R.put phase done init)).1.B.getD j 0 = s.B.getD j 0 := by
    intro j j1 j2
    have hto := to_le s
    have hb : (recBytes { (R.put phase done init) with seq := s.load.1.seq + 1 }).length = 160 := recBytes_len _ hi
    obtain ⟨w1, w2, w3, w4⟩ := live_write h.live s.to _ hb (by omega)
    have hL := load_live h.live (by omega : 2 ≤ s.worn.length)
    have e15 : s.load.2.2 = 0 ∨ s.load.2.2 = 15 := by rw [hL]; exact best_err s 2
    have h3 : ({ (R.put phase done init) with seq := s.load.1.seq + 1 } : RecS).right = true := hr
    have hsq : s.load.1.seq + 1 < 4294967296 := by rw [h.load]; exact hq
    have hsv : s.save (R.put phase done init) = ((s.write s.to (recBytes { (R.put phase done init) with seq := s.load.1.seq + 1 })).1, { (R.put phase done init) with seq := s.load.1.seq + 1 }, 0) := by
      unfold FlS.save
      rw [if_neg (by omega), if_neg (by omega), if_neg (by simp [h3]), if_neg (by simp [w1])]
    rw [hsv]
    show (s.write s.to _).1.B.getD j 0 = _
    rw [w4 j j2, if_neg (by omega), if_neg (by omega)]
  refine ⟨(s.save (R.put phase done init)).1, ?_, ⟨a2, by omega, by rw [a5], ⟨hq, ok'.floor, ok'.bytes, ok'.sum, ok'.done, ok'.init⟩, hr⟩, by rw [a5], a3, a4, hlow⟩
  unfold kRem
  rw [a1]
  simp
/-- pages of the keeper's bank are erased -/
theorem KL.clr {s : FlS} {R : RecS} (h : KL s R) (a k : Nat) (hk : a + k ≤ 16) :
    (s.clr 18 a k).2 = 0 ∧ KL (s.clr 18 a k).1 R ∧ (s.clr 18 a k).1.load = s.load ∧ (s.clr 18 a k).1.B.length = s.B.length ∧ ∀ j, j < s.B.length → (s.clr 18 a k).1.B.getD j 0 = if (18 + a) * 256 ≤ j ∧ j < (18 + a + k) * 256 then 255 else s.B.getD j 0 := by
  have hw := h.worn
  have hpg := h.pages
  obtain ⟨c1, c2, c3, c4⟩ := live_clr k h.live 18 a (by omega)
  have hL : (s.clr 18 a k).1.load = s.load := load_same h.live c2 (by omega) c3 fun j hj => by
    rw [c4 j (by omega), if_neg (by omega)]
  have := c2.ok.pages
  exact ⟨c1, ⟨c2, by omega, by rw [hL]; exact h.load, h.ok, h.right⟩, hL, c3, c4⟩
/-- bytes are put on what is erased -/
theorem KL.prog {s : FlS} {R : RecS} (h : KL s R) (a : Nat) (ha : 512 ≤ a) (lb : List UInt8) (h4 : lb.length % 4 = 0) (hl : a + lb.length ≤ s.B.length) (he : ∀ j, j < lb.length → s.B.getD (a + j) 0 = 255) :
    (s.prog a lb).2 = 0 ∧ KL (s.prog a lb).1 R ∧ (s.prog a lb).1.load = s.load ∧ (s.prog a lb).1.B.length = s.B.length ∧ ∀ j, j < s.B.length → (s.prog a lb).1.B.getD j 0 = if a ≤ j ∧ j < a + lb.length then lb.getD (j - a) 0 else s.B.getD j 0 := by
  have hw := h.worn
  have hpg := h.pages
  obtain ⟨c1, c2, c3⟩ := live_prog h.live a lb h4 hl fun j hj => by rw [he j hj]; exact and_ones8 _
  have hB := FlS.prog_length s a lb
  have hL : (s.prog a lb).1.load = s.load := load_same h.live c2 (by omega) hB fun j hj => by
    rw [c3 j (by omega), if_neg (by omega)]
  have := c2.ok.pages
  exact ⟨c1, ⟨c2, by omega, by rw [hL]; exact h.load, h.ok, h.right⟩, hL, hB, c3⟩
theorem right_of {s : RecS} (h1 : s.bytes ≤ 4096) (h2 : s.done ≤ 4096) (h3 : s.phase.toNat ≤ 2) (h4 : s.init.length ≤ 128) (h5 : s.phase.toNat ≠ 0 ∨ s.done = 0 ∧ s.init.length = 0) : s.right = true := decide_eq_true ⟨h1, h2, h3, h4, h5⟩
/-- a transfer is begun -/
theorem KL.start {s : FlS} {R : RecS} (h : KL s R) (hq : R.seq + 2 < 4294967296) (init : List UInt8) (hi : init.length ≤ 128) :
    ∃ t, kStart s R init = (t, { R.put 1 0 init with seq := R.seq + 2 }, 0) ∧ KL t { R.put 1 0 init with seq := R.seq + 2 } ∧ t.load.2.2 = 0 ∧ t.B.length = s.B.length ∧ t.worn.length = s.worn.length ∧ (∀ j, 4608 ≤ j → j < 8704 → t.B.getD j 0 = 255) := by
  have hb : R.bytes ≤ 4096 := by
    have := h.right
    simp only [RecS.right, decide_eq_true_eq] at this
    exact this.1
  have hw := h.worn
  have hpg := h.pages
  have r0 : (R.put 0 0 []).right = true := right_of hb (Nat.zero_le _) (show (0 : UInt8).toNat ≤ 2 by decide) (Nat.zero_le _) (.inr ⟨rfl, rfl⟩)
  obtain ⟨t1, e1, k1, _, l1, w1, _⟩ := h.rem (by omega) 0 0 [] r0
  obtain ⟨c1, k2, _, l2, b2⟩ := k1.clr 0 16 (by omega)
  have r1 : (RecS.put { R.put 0 0 [] with seq := R.seq + 1 } 1 0 init).right = true := right_of hb (Nat.zero_le _) (show (1 : UInt8).toNat ≤ 2 by decide) hi (.inl (show (1 : UInt8).toNat ≠ 0 by decide))
  obtain ⟨t3, e3, k3, o3, l3, w3, b3⟩ := k2.rem (show R.seq + 1 + 1 < 4294967296 by omega) 1 0 init r1
  have hst : kStart s R init = (t3, { R.put 1 0 init with seq := R.seq + 2 }, 0) := by
    unfold kStart
    rw [e1]
    rw [if_neg (by simp), if_neg (by simp [c1])]
    exact e3
  have ww := k2.pages
  have w0 := k1.pages
  refine ⟨t3, hst, k3, o3, by omega, by omega, fun j j1 j2 => ?_⟩
  rw [b3 j (by omega) (by omega), b2 j (by omega), if_pos (by omega)]
/-- bytes are put -/
theorem KL.put {s : FlS} {R : RecS} (h : KL s R) (hq : R.seq + 1 < 4294967296) (hph : R.phase = 1) (b : List UInt8) (hd : R.done % 256 = 0) (hl : R.done + b.length ≤ 4096) :
    ∃ t, kPut s R b = (t, { R.put 1 (R.done + b.length) R.init with seq := R.seq + 1 }, 0) ∧ KL t { R.put 1 (R.done + b.length) R.init with seq := R.seq + 1 } ∧ t.load.2.2 = 0 ∧ t.B.length = s.B.length ∧ t.worn.length = s.worn.length ∧
      (∀ j, j < b.length → t.B.getD (4608 + R.done + j) 0 = b.getD j 0) ∧ ∀ j, 512 ≤ j → j < 4608 + R.done → t.B.getD j 0 = s.B.getD j 0 := by
  have hrr := h.right
  simp only [RecS.right, decide_eq_true_eq] at hrr
  have hw := h.worn
  have hpg := h.pages
  have hP := padW_len b
  obtain ⟨c1, k2, _, l2, b2⟩ := h.clr (R.done / 256) ((R.done + b.length + 255) / 256 - R.done / 256) (by omega)
  obtain ⟨d1, k3, _, l3, b3⟩ := k2.prog (4608 + R.done) (by omega) (padW b) (by omega) (by omega) fun j hj => by
    rw [b2 _ (by omega), if_pos (by omega)]
  have r1 : (R.put 1 (R.done + b.length) R.init).right = true := right_of hrr.1 hl (show (1 : UInt8).toNat ≤ 2 by decide) hrr.2.2.2.1 (.inl (show (1 : UInt8).toNat ≠ 0 by decide))
  obtain ⟨t4, e4, k4, o4, l4, w4, b4⟩ := k3.rem hq 1 (R.done + b.length) R.init r1
  have hst : kPut s R b = (t4, { R.put 1 (R.done + b.length) R.init with seq := R.seq + 1 }, 0) := by
    unfold kPut
    rw [if_neg (by simp [hph]), if_neg (by omega), if_neg (by simp [c1]), if_neg (by simp [d1])]
    exact e4
  have w2 := k2.pages
  have w3 := k3.pages
  refine ⟨t4, hst, k4, o4, by omega, by omega, fun j hj => ?_, fun j j1 j2 => ?_⟩
  · rw [b4 _ (by omega) (by omega), b3 _ (by omega), if_pos (by omega), show 4608 + R.done + j - (4608 + R.done) = j by omega]
    unfold padW
    rw [List.getD_eq_getElem?_getD, List.getD_eq_getElem?_getD, List.getElem?_append_left hj]
  · rw [b4 _ (by omega) (by omega), b3 _ (by omega), if_neg (by omega), b2 _ (by omega), if_neg (by omega)]
end Go.Proofs.YtgmpmlneoiagdaaGreatDoor

/- A flash with an image in its active bank, and the record that tells so. No Go function is spoken of. -/
namespace Go.Proofs.YtgmpmlneoiagdaaGreatDoor
set_option linter.unusedVariables false
set_option linter.unusedSimpArgs false

/-- a record is saved -/
theorem KL.save {s : FlS} {R : RecS} (h : KL s R) (hq : R.seq + 1 < 4294967296) (r : RecS) (ok' : r.Ok) (hr : r.right = true) :
    ∃ t, s.save r = (t, { r with seq := R.seq + 1 }, 0) ∧ KL t { r with seq := R.seq + 1 } ∧ t.load.2.2 = 0 ∧ t.B.length = s.B.length ∧ t.worn.length = s.worn.length ∧ ∀ j, 512 ≤ j → j < s.B.length → t.B.getD j 0 = s.B.getD j 0 := by
  have hrr := hr
  simp only [RecS.right, decide_eq_true_eq] at hrr
  have hi : r.init.length ≤ 128 := hrr.2.2.2.1
  have hw := h.worn
  obtain ⟨a1, a2, a3, a4, a5⟩ := fl_save h.live (by omega) r ok' hr (by rw [h.load]; exact hq)
  rw [h.load] at a1 a5
  have hpg := h.pages
  have hlow : ∀ j, 512 ≤ j → j < s.B.length → (s.save r).1.B.getD j 0 = s.B.getD j 0 := by
    intro j j1 j2
    have hto := to_le s
    have hb : (recBytes { r with seq := s.load.1.seq + 1 }).length = 160 := recBytes_len _ hi
    obtain ⟨w1, w2, w3, w4⟩ := live_write h.live s.to _ hb (by omega)
    have hL := load_live h.live (by omega : 2 ≤ s.worn.length)
    have e15 : s.load.2.2 = 0 ∨ s.load.2.2 = 15 := by rw [hL]; exact best_err s 2
    have h3 : ({ r with seq := s.load.1.seq + 1 } : RecS).right = true := hr
    have hsq : s.load.1.seq + 1 < 4294967296 := by rw [h.load]; exact hq
    have hsv : s.save r = ((s.write s.to (recBytes { r with seq := s.load.1.seq + 1 })).1, { r with seq := s.load.1.seq + 1 }, 0) := by
      unfold FlS.save
      rw [if_neg (by omega), if_neg (by omega), if_neg (by simp [h3]), if_neg (by simp [w1])]
    rw [hsv]
    show (s.write s.to _).1.B.getD j 0 = _
    rw [w4 j j2, if_neg (by omega), if_neg (by omega)]
  refine ⟨(s.save r).1, ?_, ⟨a2, by omega, by rw [a5], ⟨hq, ok'.floor, ok'.bytes, ok'.sum, ok'.done, ok'.init⟩, hr⟩, by rw [a5], a3, a4, hlow⟩
  rw [← a1]
def idleR (old : List UInt8) : RecS := { zeroS with bytes := old.length, sum := crcUpd 0 old }
theorem new_getD (n j : Nat) (h : j < n * 256) : (FlS.new n).B.getD j 0 = 255 := by
  show (List.replicate (n * 256) (255 : UInt8)).getD j 0 = 255
  rw [List.getD_eq_getElem?_getD, List.getElem?_replicate, if_pos h]
  rfl
theorem idle_flash (old : List UInt8) (h4 : old.length % 4 = 0) (hn : old.length ≤ 1000) :
    ((FlS.new 34).prog 512 old).2 = 0 ∧ ((FlS.new 34).prog 512 old).1.Live ∧ ∃ t, ((FlS.new 34).prog 512 old).1.save (idleR old) = (t, { idleR old with seq := 1 }, 0) ∧ KL t { idleR old with seq := 1 } ∧ t.load.2.2 = 0 ∧ (t.B.drop 512).take old.length = old := by
  have k0 := KL.new 34 (by decide) (by decide)
  have hl0 : (FlS.new 34).B.length = 8704 := by
    show (List.replicate (34 * 256) (255 : UInt8)).length = 8704
    rw [List.length_replicate]
  obtain ⟨a1, a2, a3, a4, a5⟩ := k0.prog 512 (by omega) old h4 (by omega) fun j hj => new_getD 34 _ (by omega)
  have hc : crcUpd 0 old < 4294967296 := by unfold crcUpd; omega
  have ok : (idleR old).Ok := ⟨by show (0 : Nat) < _; omega, by show (0 : Nat) < _; omega, by show old.length < _; omega, hc, by show (0 : Nat) < _; omega, by show (0 : Nat) ≤ _; omega⟩
  obtain ⟨t, b1, b2, b3, b4, b5, b6⟩ := a2.save (by decide) (idleR old) ok (right_of (by show old.length ≤ _; omega) (Nat.zero_le _) (Nat.zero_le _) (Nat.zero_le _) (.inr ⟨rfl, rfl⟩))
  refine ⟨a1, a2.live, t, b1, b2, b3, ?_⟩
  apply List.ext_getElem?
  intro j
  rw [List.getElem?_take]
  split
  · rename_i hj
    rw [List.getElem?_drop]
    refine get_of_getD (by omega) hj ?_
    rw [b6 _ (by omega) (by omega), a5 _ (by omega), if_pos (by omega), Nat.add_sub_cancel_left]
  · rw [List.getElem?_eq_none (by omega)]
end Go.Proofs.YtgmpmlneoiagdaaGreatDoor
