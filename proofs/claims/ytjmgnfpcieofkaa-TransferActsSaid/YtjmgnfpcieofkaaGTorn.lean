/- LAID TOGETHER: FlMath, FlMath2, Torn1, Torn2, Torn3, Torn4. -/
import Derived.Test.YtjmgnfpcieofkaaFlashTearsMath
import Derived.Test.YtjmgnfpcieofkaaBank3
import Derived.Test.YtjmgnfpcieofkaaSetMath
import Derived.Test.YtjmgnfpcieofkaaRecMath2
import Derived.Test.YtjmgnfpcieofkaaSet5
/- Flash whose power stays: what is programmed and erased is there. No Go function is spoken of. -/
namespace Go.Proofs.Ytjmgnfpcieofkaa
set_option linter.unusedVariables false
set_option linter.unusedSimpArgs false

/-- with power, and none that goes -/
structure FlS.Live (s : FlS) : Prop where
  off : s.off = false
  armed : s.armed = false
  free : s.lt = 0
  ok : s.Ok
theorem FlS.Live.fails {s : FlS} (h : s.Live) : s.fails = false := by simp [FlS.fails, h.armed]
theorem FlS.Live.step {s : FlS} (h : s.Live) : s.step.Live := by
  have hf := h.fails
  refine ⟨by simp [FlS.step, hf, h.off], by simp [FlS.step, hf, h.armed], by rw [FlS.step_free]; exact h.free, FlS.step_ok h.ok⟩
theorem FlS.Live.new (k : Nat) (h1 : 1 ≤ k) (h2 : k ≤ 64) : (FlS.new k).Live := ⟨rfl, rfl, rfl, FlS.new_ok k h1 h2⟩

/-- behind i words of a text, on what was there -/
structure MidA (B : List UInt8) (lb : List UInt8) (a i : Nat) (s : FlS) : Prop where
  len : s.B.length = B.length
  live : s.Live
  at' : ∀ j, j < B.length → s.B.getD j 0 = if a ≤ j ∧ j < a + i * 4 then lb.getD (j - a) 0 else B.getD j 0
theorem FlS.Live.word {s : FlS} (h : s.Live) (a : Nat) (lb : List UInt8) : (s.word a lb).Live :=
  ⟨h.step.off, h.step.armed, h.step.free, FlS.word_ok h.ok a lb⟩
theorem MidA.next {B lb : List UInt8} {a i : Nat} {s : FlS} (h : MidA B lb a i s) (hi : (i + 1) * 4 ≤ lb.length) (hl : a + lb.length ≤ B.length) (hw : ∀ j, j < lb.length → B.getD (a + j) 0 &&& lb.getD j 0 = lb.getD j 0) :
    s.wordErr (a + i * 4) (word4 lb i) = 0 ∧ MidA B lb a (i + 1) (s.word (a + i * 4) (word4 lb i)) := by
  have hf := h.live.fails
  have hm : s.mask = 4294967295 := by simp [FlS.mask, hf]
  have hd : ∀ k, k < 4 → dropByte (s.B.getD (a + i * 4 + k) 0) ((word4 lb i).getD k 0) (s.mask / 2 ^ (8 * k)) = lb.getD (i * 4 + k) 0 := by
    intro k hk
    rw [hm, dropByte_full _ _ _ hk, word4_getD _ _ _ hk, h.at' _ (by omega), if_neg (by omega), Nat.add_assoc]
    exact hw _ (by omega)
  constructor
  · unfold FlS.wordErr
    rw [h.live.step.off, badK_false _ _ _ _ _ (fun k hk => by rw [hd k hk, word4_getD _ _ _ hk])]
    rfl
  · refine ⟨by rw [FlS.word_length, h.len], h.live.word _ _, fun j hj => ?_⟩
    show (progK s.B (a + i * 4) (word4 lb i) s.mask 4).getD j 0 = _
    rw [progK_getD _ _ _ _ _ (by rw [h.len]; omega)]
    by_cases h1 : a + i * 4 ≤ j ∧ j < a + i * 4 + 4
    · rw [if_pos h1, if_pos (by omega)]
      have := hd (j - (a + i * 4)) (by omega)
      rw [show a + i * 4 + (j - (a + i * 4)) = j by omega, show i * 4 + (j - (a + i * 4)) = j - a by omega] at this
      exact this
    · rw [if_neg h1, h.at' j hj]
      by_cases h2 : a ≤ j ∧ j < a + i * 4
      · rw [if_pos h2, if_pos (by omega)]
      · rw [if_neg h2, if_neg (by omega)]
theorem MidA.run {B lb : List UInt8} {a : Nat} (hl : a + lb.length ≤ B.length) (hw : ∀ j, j < lb.length → B.getD (a + j) 0 &&& lb.getD j 0 = lb.getD j 0) : ∀ (r i : Nat) (s : FlS), MidA B lb a i s → (i + r) * 4 ≤ lb.length →
    (FlS.progW lb a r i s).2 = 0 ∧ MidA B lb a (i + r) (FlS.progW lb a r i s).1 := by
  intro r
  induction r with
  | zero => intro i s h _; exact ⟨rfl, h⟩
  | succ r ih =>
    intro i s h hi
    obtain ⟨h1, h2⟩ := h.next (by omega) hl hw
    unfold FlS.progW
    rw [if_pos h1]
    have := ih (i + 1) _ h2 (by omega)
    rw [show i + (r + 1) = i + 1 + r by omega]
    exact this
/-- what is programmed is there, if no bit would have to rise -/
theorem live_prog {s : FlS} (h : s.Live) (a : Nat) (lb : List UInt8) (h4 : lb.length % 4 = 0) (hl : a + lb.length ≤ s.B.length) (hw : ∀ j, j < lb.length → s.B.getD (a + j) 0 &&& lb.getD j 0 = lb.getD j 0) :
    (s.prog a lb).2 = 0 ∧ (s.prog a lb).1.Live ∧ ∀ j, j < s.B.length → (s.prog a lb).1.B.getD j 0 = if a ≤ j ∧ j < a + lb.length then lb.getD (j - a) 0 else s.B.getD j 0 := by
  unfold FlS.prog
  rw [if_neg (by simp [h.off]), if_pos hl]
  obtain ⟨h1, h2⟩ := MidA.run hl hw (lb.length / 4) 0 s ⟨rfl, h, fun j hj => by rw [if_neg (by omega)]⟩ (by omega)
  refine ⟨h1, h2.live, fun j hj => ?_⟩
  rw [h2.at' j hj, show (0 + lb.length / 4) * 4 = lb.length by omega]
theorem eraK_getD (B : List UInt8) (page m : Nat) (hm : ∀ i, i < 32 → m / 2 ^ i % 2 = 1) (k : Nat) : page * 256 + k ≤ B.length → ∀ j, (eraK B page m k).getD j 0 = if page * 256 ≤ j ∧ j < page * 256 + k then 255 else B.getD j 0 := by
  induction k with
  | zero =>
    intro _ j
    rw [if_neg (by omega)]
    simp only [eraK]
  | succ k ih =>
    intro h j
    have ih := ih (by omega) j
    have hl := eraK_length B page m k
    unfold eraK
    rw [if_pos (hm _ (Nat.mod_lt _ (by decide)))]
    simp only [List.getD_eq_getElem?_getD] at ih ⊢
    by_cases hj : j = page * 256 + k
    · subst hj
      rw [List.getElem?_set_self (by omega), if_pos (by omega)]
      rfl
    · rw [List.getElem?_set_ne (by omega), ih]
      clear ih hl
      by_cases h2 : page * 256 ≤ j ∧ j < page * 256 + k
      · rw [if_pos h2, if_pos (by omega)]
      · rw [if_neg h2, if_neg (by omega)]
theorem ones32 : ∀ i, i < 32 → 4294967295 / 2 ^ i % 2 = 1 := by
  set_option maxRecDepth 100000 in decide +kernel
/-- an erased page is all 255 -/
theorem live_era {s : FlS} (h : s.Live) (page : Nat) (hp : page < s.worn.length) :
    (s.era page).2 = 0 ∧ (s.era page).1.Live ∧ ∀ j, j < s.B.length → (s.era page).1.B.getD j 0 = if page * 256 ≤ j ∧ j < page * 256 + 256 then 255 else s.B.getD j 0 := by
  have hm : s.mask = 4294967295 := by simp [FlS.mask, h.fails]
  have hpg := h.ok.pages
  unfold FlS.era
  rw [if_neg (by simp [h.off]), if_neg (by omega)]
  refine ⟨by rw [if_neg (by simp [h.step.off])], ⟨h.step.off, h.step.armed, h.step.free, FlS.eraS_ok h.ok page⟩, fun j hj => ?_⟩
  show (eraK s.B page s.mask 256).getD j 0 = _
  rw [hm]
  exact eraK_getD s.B page _ ones32 256 (by omega) j
theorem rows_aux {α : Type} {A B C F D K : Nat} (j : Nat) (x y : α) (hA : A = F + D) (hB : B = F + D + K) (hC : C = F + D + K) : (if A ≤ j ∧ j < B then x else if F ≤ j ∧ j < F + D then x else y) = if F ≤ j ∧ j < C then x else y := by
  subst hA hB hC
  by_cases c1 : F + D ≤ j ∧ j < F + D + K
  · rw [if_pos c1, if_pos (by omega)]
  · rw [if_neg c1]
    by_cases c2 : F ≤ j ∧ j < F + D
    · rw [if_pos c2, if_pos (by omega)]
    · rw [if_neg c2, if_neg (by omega)]
theorem rows_e2 (f k d : Nat) : (f + 1 + k) * d = f * d + d + k * d := by rw [Nat.add_mul, Nat.succ_mul]
theorem rows_if {α : Type} (first a k j : Nat) (x y : α) : (if (first + (a + 1)) * 256 ≤ j ∧ j < (first + (a + 1) + k) * 256 then x else if (first + a) * 256 ≤ j ∧ j < (first + a) * 256 + 256 then x else y) = if (first + a) * 256 ≤ j ∧ j < (first + a + (k + 1)) * 256 then x else y :=
  rows_aux (D := 256) (K := k * 256) j x y (Nat.succ_mul (first + a) 256) (rows_e2 (first + a) k 256) (by rw [show first + a + (k + 1) = first + a + 1 + k by omega]; exact rows_e2 (first + a) k 256)
theorem live_clr : ∀ (k : Nat) {s : FlS} (h : s.Live) (first a : Nat), first + a + k ≤ s.worn.length →
    (s.clr first a k).2 = 0 ∧ (s.clr first a k).1.Live ∧ (s.clr first a k).1.B.length = s.B.length ∧ ∀ j, j < s.B.length → (s.clr first a k).1.B.getD j 0 = if (first + a) * 256 ≤ j ∧ j < (first + a + k) * 256 then 255 else s.B.getD j 0
  | 0, s, h, first, a, _ => ⟨rfl, h, rfl, fun j hj => by rw [if_neg (by omega)]; rfl⟩
  | k + 1, s, h, first, a, hk => by
    obtain ⟨h1, h2, h3⟩ := live_era h (first + a) (by omega)
    have hB := FlS.era_length s (first + a)
    have hw := FlS.era_wornlen s (first + a)
    obtain ⟨g1, g2, g4, g3⟩ := live_clr k h2 first (a + 1) (by omega)
    unfold FlS.clr
    rw [if_pos h1]
    refine ⟨g1, g2, by rw [g4, hB], fun j hj => ?_⟩
    rw [g3 j (by omega), h3 j hj]
    exact rows_if first a k j _ _
theorem and_zero8 (x : UInt8) : x &&& 0 = 0 := by
  apply UInt8.toNat_inj.1
  rw [UInt8.toNat_and, UInt8.toNat_zero, Nat.and_zero]
theorem and_ones8 (x : UInt8) : 255 &&& x = x := by
  apply UInt8.toNat_inj.1
  rw [UInt8.toNat_and]
  have h := UInt8.toNat_lt x
  have e : (255 : UInt8).toNat = 2 ^ 8 - 1 := by decide +kernel
  rw [e, Nat.and_comm, Nat.and_two_pow_sub_one_eq_mod, Nat.mod_eq_of_lt h]
/-- a page is written -/
theorem live_write {s : FlS} (h : s.Live) (to : Nat) (b : List UInt8) (hb : b.length = 160) (ht : to < s.worn.length) :
    (s.write to b).2 = 0 ∧ (s.write to b).1.Live ∧ (s.write to b).1.B.length = s.B.length ∧ ∀ j, j < s.B.length → (s.write to b).1.B.getD j 0 = if to * 256 ≤ j ∧ j < to * 256 + 160 then b.getD (j - to * 256) 0 else if to * 256 ≤ j ∧ j < to * 256 + 256 then 255 else s.B.getD j 0 := by
  have hpg := h.ok.pages
  obtain ⟨a1, a2, a3⟩ := live_prog h (to * 256) [0, 0, 0, 0] rfl (by simp; omega) (fun j hj => by
    have hz : ([0, 0, 0, 0] : List UInt8).getD j 0 = 0 := by
      match j with
      | 0 => rfl
      | 1 => rfl
      | 2 => rfl
      | 3 => rfl
      | n + 4 => rfl
    rw [hz]; exact and_zero8 _)
  have l1 := FlS.prog_length s (to * 256) [0, 0, 0, 0]
  have w1 := FlS.prog_worn s (to * 256) [0, 0, 0, 0]
  obtain ⟨b1, b2, b3⟩ := live_era a2 to (by rw [w1]; exact ht)
  have l2 := FlS.era_length (s.prog (to * 256) [0, 0, 0, 0]).1 to
  obtain ⟨c1, c2, c3⟩ := live_prog b2 (to * 256) b (by omega) (by omega) (fun j hj => by
    rw [b3 _ (by omega), if_pos (by omega)]; exact and_ones8 _)
  have l3 := FlS.prog_length ((s.prog (to * 256) [0, 0, 0, 0]).1.era to).1 (to * 256) b
  have he : s.write to b = ((s.prog (to * 256) [0, 0, 0, 0]).1.era to).1.prog (to * 256) b := by
    unfold FlS.write
    rw [if_neg (by simp [a1]), if_neg (by simp [b1])]
  rw [he]
  refine ⟨c1, c2, by rw [l3, l2, l1], fun j hj => ?_⟩
  rw [c3 j (by omega), hb]
  by_cases d1 : to * 256 ≤ j ∧ j < to * 256 + 160
  · rw [if_pos d1, if_pos d1]
  · rw [if_neg d1, if_neg d1, b3 j (by omega)]
    by_cases d2 : to * 256 ≤ j ∧ j < to * 256 + 256
    · rw [if_pos d2, if_pos d2]
    · rw [if_neg d2, if_neg d2, a3 j hj, if_neg (by simp; omega)]
end Go.Proofs.Ytjmgnfpcieofkaa

/- What is saved on flash whose power stays is loaded again. No Go function is spoken of. -/
namespace Go.Proofs.Ytjmgnfpcieofkaa
set_option linter.unusedVariables false
set_option linter.unusedSimpArgs false

theorem pg_get (s : FlS) (k i : Nat) : (s.pg k)[i]? = if i < 160 then s.B[256 * k + i]? else Option.none := by
  unfold FlS.pg
  rw [List.getElem?_take, List.getElem?_drop]
theorem get_of_getD {l m : List UInt8} {i j : Nat} (hi : i < l.length) (hj : j < m.length) (h : l.getD i 0 = m.getD j 0) : l[i]? = m[j]? := by
  rw [List.getElem?_eq_getElem hi, List.getElem?_eq_getElem hj]
  rw [List.getD_eq_getElem?_getD, List.getD_eq_getElem?_getD, List.getElem?_eq_getElem hi, List.getElem?_eq_getElem hj] at h
  exact congrArg some h
/-- a page that is not touched -/
theorem pg_same {s t : FlS} (k : Nat) (hl : t.B.length = s.B.length) (hk : 256 * k + 160 ≤ s.B.length) (h : ∀ j, 256 * k ≤ j → j < 256 * k + 160 → t.B.getD j 0 = s.B.getD j 0) : t.pg k = s.pg k := by
  apply List.ext_getElem?
  intro i
  rw [pg_get, pg_get]
  by_cases hi : i < 160
  · rw [if_pos hi, if_pos hi]
    exact get_of_getD (by omega) (by omega) (h _ (by omega) (by omega))
  · rw [if_neg hi, if_neg hi]
/-- a page that is written -/
theorem pg_new {t : FlS} (k : Nat) (b : List UInt8) (hb : b.length = 160) (hk : 256 * k + 160 ≤ t.B.length) (h : ∀ j, 256 * k ≤ j → j < 256 * k + 160 → t.B.getD j 0 = b.getD (j - 256 * k) 0) : t.pg k = b := by
  apply List.ext_getElem?
  intro i
  rw [pg_get]
  by_cases hi : i < 160
  · rw [if_pos hi]
    refine get_of_getD (by omega) (by omega) ?_
    rw [h _ (by omega) (by omega), show 256 * k + i - 256 * k = i by omega]
  · rw [if_neg hi, List.getElem?_eq_none (by omega)]
theorem best_two (s : FlS) : s.best 2 = if recErr (s.pg 1) = 0 ∧ ((if recErr (s.pg 0) = 0 then (readS (s.pg 0), 0, 0) else (zeroS, 0, 15) : RecS × Nat × Nat).2.2 = 15 ∨ (if recErr (s.pg 0) = 0 then (readS (s.pg 0), 0, 0) else (zeroS, 0, 15) : RecS × Nat × Nat).1.seq < (readS (s.pg 1)).seq) then (readS (s.pg 1), 1, 0) else if recErr (s.pg 0) = 0 then (readS (s.pg 0), 0, 0) else (zeroS, 0, 15) := by
  have h1 : s.best 1 = if recErr (s.pg 0) = 0 then (readS (s.pg 0), 0, 0) else (zeroS, 0, 15) := by
    show (if recErr (s.pg 0) = 0 ∧ ((s.best 0).2.2 = 15 ∨ (s.best 0).1.seq < (readS (s.pg 0)).seq) then (readS (s.pg 0), 0, 0) else s.best 0) = _
    by_cases h : recErr (s.pg 0) = 0
    · rw [if_pos ⟨h, .inl rfl⟩, if_pos h]
    · rw [if_neg (fun c => h c.1), if_neg h]; rfl
  show (if recErr (s.pg 1) = 0 ∧ ((s.best 1).2.2 = 15 ∨ (s.best 1).1.seq < (readS (s.pg 1)).seq) then (readS (s.pg 1), 1, 0) else s.best 1) = _
  rw [h1]
/-- what is written beyond the newest is the newest -/
theorem best_next {s t : FlS} {q : RecS} (hq : q.seq = (s.best 2).1.seq + 1) (he : recErr (recBytes q) = 0) (hr : readS (recBytes q) = q)
    (h0 : t.pg (if (s.best 2).2.2 = 0 then 1 - (s.best 2).2.1 else 0) = recBytes q) (h1 : t.pg (1 - (if (s.best 2).2.2 = 0 then 1 - (s.best 2).2.1 else 0)) = s.pg (1 - (if (s.best 2).2.2 = 0 then 1 - (s.best 2).2.1 else 0))) :
    t.best 2 = (q, (if (s.best 2).2.2 = 0 then 1 - (s.best 2).2.1 else 0), 0) := by
  rw [best_two t]
  rw [best_two s] at hq h0 h1 ⊢
  by_cases e0 : recErr (s.pg 0) = 0
  · simp only [if_pos e0] at hq h0 h1 ⊢
    by_cases e1 : recErr (s.pg 1) = 0 ∧ ((0 : Nat) = 15 ∨ (readS (s.pg 0)).seq < (readS (s.pg 1)).seq)
    · simp only [if_pos e1, if_true, Nat.sub_self, Nat.sub_zero] at hq h0 h1 ⊢
      rw [h0, h1, he, hr]
      simp only [if_true]
      rw [if_neg (by rintro ⟨_, h | h⟩ <;> omega)]
    · simp only [if_neg e1, if_true, Nat.sub_self, Nat.sub_zero] at hq h0 h1 ⊢
      rw [h0, h1, he, hr]
      simp only [if_pos e0]
      rw [if_pos ⟨trivial, .inr (by omega)⟩]
  · simp only [if_neg e0] at hq h0 h1 ⊢
    by_cases e1 : recErr (s.pg 1) = 0
    · simp only [e1, true_and, true_or, if_true, Nat.sub_self, Nat.sub_zero] at hq h0 h1 ⊢
      rw [h0, h1, he, hr]
      simp only [if_true]
      rw [if_neg (by rintro ⟨_, h | h⟩ <;> omega)]
    · simp only [e1, false_and, if_false, if_true, Nat.sub_self, Nat.sub_zero, show ((15 : Nat) = 0) = False by simp] at hq h0 h1 ⊢
      rw [h0, h1, he, hr]
      simp only [if_true]
      rw [if_neg (fun c => e1 c.1)]
theorem load_live {s : FlS} (h : s.Live) (hp : 2 ≤ s.worn.length) : s.load = s.best 2 := by
  have hpg := h.ok.pages
  unfold FlS.load
  rw [if_neg (by omega), if_neg (by simp [h.off])]
/-- what is saved is loaded -/
theorem fl_save {s : FlS} (h : s.Live) (hp : 2 ≤ s.worn.length) (r : RecS) (ok : r.Ok) (hr : r.right = true) (hs : s.load.1.seq + 1 < 4294967296) :
    (s.save r).2 = ({ r with seq := s.load.1.seq + 1 }, 0) ∧ (s.save r).1.Live ∧ (s.save r).1.B.length = s.B.length ∧ (s.save r).1.worn.length = s.worn.length ∧ (s.save r).1.load = ({ r with seq := s.load.1.seq + 1 }, s.to, 0) := by
  have hpg := h.ok.pages
  have hL := load_live h hp
  have hto := to_le s
  have h3 : ({ r with seq := s.load.1.seq + 1 } : RecS).right = true := hr
  have ok3 : ({ r with seq := s.load.1.seq + 1 } : RecS).Ok := ⟨hs, ok.floor, ok.bytes, ok.sum, ok.done, ok.init⟩
  have hi : r.init.length ≤ 128 := by
    simp only [RecS.right, decide_eq_true_eq] at hr
    exact hr.2.2.2.1
  have hb : (recBytes { r with seq := s.load.1.seq + 1 }).length = 160 := recBytes_len _ hi
  have he := recErr_bytes _ ok3 h3
  have hrd := read_bytes _ ok3 hi
  obtain ⟨w1, w2, w3, w4⟩ := live_write h s.to _ hb (by omega)
  have e15 : s.load.2.2 = 0 ∨ s.load.2.2 = 15 := by rw [hL]; exact best_err s 2
  have hsv : s.save r = ((s.write s.to (recBytes { r with seq := s.load.1.seq + 1 })).1, { r with seq := s.load.1.seq + 1 }, 0) := by
    unfold FlS.save
    rw [if_neg (by omega), if_neg (by omega), if_neg (by simp [h3]), if_neg (by simp [w1])]
  have ww : (s.write s.to (recBytes { r with seq := s.load.1.seq + 1 })).1.worn.length = s.worn.length := by
    have := w2.ok.pages
    omega
  rw [hsv]
  refine ⟨rfl, w2, w3, ww, ?_⟩
  show (s.write s.to (recBytes { r with seq := s.load.1.seq + 1 })).1.load = _
  rw [load_live w2 (by omega)]
  have hT : s.to = if (s.best 2).2.2 = 0 then 1 - (s.best 2).2.1 else 0 := by unfold FlS.to; rw [hL]
  rw [hT]
  refine best_next (s := s) (by rw [hL]) he hrd ?_ ?_
  · rw [← hT]
    refine pg_new _ _ hb (by omega) fun j j1 j2 => ?_
    rw [w4 j (by omega), if_pos (by omega), Nat.mul_comm s.to 256]
  · rw [← hT]
    refine pg_same _ w3 (by omega) fun j j1 j2 => ?_
    rw [w4 j (by omega), if_neg (by omega), if_neg (by omega)]
theorem recErr_erased : recErr (List.replicate 160 255) = 7 := by
  set_option maxRecDepth 100000 in decide +kernel
theorem new_load (n : Nat) (h : 2 ≤ n) : (FlS.new n).load = (zeroS, 0, 15) := by
  have hpg : ∀ k, k < 2 → (FlS.new n).pg k = List.replicate 160 255 := fun k hk => by
    unfold FlS.pg FlS.new
    rw [List.drop_replicate, List.take_replicate, show min 160 (n * 256 - 256 * k) = 160 by omega]
  have hl : (FlS.new n).B.length = n * 256 := by simp [FlS.new]
  unfold FlS.load
  rw [if_neg (by omega), if_neg (by simp [FlS.new]), best_two, hpg 0 (by omega), hpg 1 (by omega), recErr_erased]
  rfl
end Go.Proofs.Ytjmgnfpcieofkaa

/- Flash whose power may go in a step: what is programmed, erased and written then. No Go function is spoken of. -/
namespace Go.Proofs.Ytjmgnfpcieofkaa
set_option linter.unusedVariables false
set_option linter.unusedSimpArgs false

/-- with power, that may go in a step, of which T tells what is done -/
structure FlS.Up (s : FlS) (T : Nat) : Prop where
  off : s.off = false
  free : s.lt = 0
  ok : s.Ok
  tear : s.armed = true → s.tear = T
/-- the power has gone -/
structure FlS.Down (s : FlS) : Prop where
  off : s.off = true
  free : s.lt = 0
  ok : s.Ok
theorem FlS.Up.step {s : FlS} {T : Nat} (h : s.Up T) (hf : s.fails = false) : s.step.Up T ∧ (s.step.armed = true → s.armed = true) ∧ s.mask = 4294967295 := by
  refine ⟨⟨by simp [FlS.step, hf, h.off], by rw [FlS.step_free]; exact h.free, FlS.step_ok h.ok, fun ha => ?_⟩, fun ha => ?_, by simp [FlS.mask, hf]⟩
  · simp only [FlS.step, hf, Bool.false_eq_true, if_false] at ha ⊢
    exact h.tear ha
  · simpa only [FlS.step, hf, Bool.false_eq_true, if_false] using ha
theorem FlS.Up.torn {s : FlS} {T : Nat} (h : s.Up T) (hf : s.fails = true) : s.step.Down ∧ s.armed = true ∧ s.mask = T := by
  have ha : s.armed = true := by
    unfold FlS.fails at hf
    rw [Bool.and_eq_true] at hf
    exact hf.1
  exact ⟨⟨by simp [FlS.step, hf], by rw [FlS.step_free]; exact h.free, FlS.step_ok h.ok⟩, ha, by simp [FlS.mask, hf, h.tear ha]⟩

/-- behind i words of a text, on what was there -/
structure MidT (B lb : List UInt8) (a i T : Nat) (A : Bool) (s : FlS) : Prop where
  len : s.B.length = B.length
  up : s.Up T
  arm : s.armed = true → A = true
  at' : ∀ j, j < B.length → s.B.getD j 0 = if a ≤ j ∧ j < a + i * 4 then lb.getD (j - a) 0 else B.getD j 0
/-- what is there, if the power goes in the n-th word -/
def tornW (B lb : List UInt8) (a n T j : Nat) : UInt8 :=
  if a ≤ j ∧ j < a + n * 4 then lb.getD (j - a) 0 else if a + n * 4 ≤ j ∧ j < a + n * 4 + 4 then dropByte (B.getD j 0) (lb.getD (j - a) 0) (T / 2 ^ (8 * (j - (a + n * 4)))) else B.getD j 0
theorem MidT.next {B lb : List UInt8} {a i T : Nat} {A : Bool} {s : FlS} (h : MidT B lb a i T A s) (hf : s.fails = false) (hi : (i + 1) * 4 ≤ lb.length) (hl : a + lb.length ≤ B.length) (hw : ∀ j, j < lb.length → B.getD (a + j) 0 &&& lb.getD j 0 = lb.getD j 0) :
    s.wordErr (a + i * 4) (word4 lb i) = 0 ∧ MidT B lb a (i + 1) T A (s.word (a + i * 4) (word4 lb i)) := by
  obtain ⟨hu, ha, hm⟩ := h.up.step hf
  have hd : ∀ k, k < 4 → dropByte (s.B.getD (a + i * 4 + k) 0) ((word4 lb i).getD k 0) (s.mask / 2 ^ (8 * k)) = lb.getD (i * 4 + k) 0 := by
    intro k hk
    rw [hm, dropByte_full _ _ _ hk, word4_getD _ _ _ hk, h.at' _ (by omega), if_neg (by omega), Nat.add_assoc]
    exact hw _ (by omega)
  constructor
  · unfold FlS.wordErr
    rw [hu.off, badK_false _ _ _ _ _ (fun k hk => by rw [hd k hk, word4_getD _ _ _ hk])]
    rfl
  · refine ⟨by rw [FlS.word_length, h.len], ⟨hu.off, hu.free, FlS.word_ok h.up.ok _ _, hu.tear⟩, fun c => h.arm (ha c), fun j hj => ?_⟩
    show (progK s.B (a + i * 4) (word4 lb i) s.mask 4).getD j 0 = _
    rw [progK_getD _ _ _ _ _ (by rw [h.len]; omega)]
    by_cases h1 : a + i * 4 ≤ j ∧ j < a + i * 4 + 4
    · rw [if_pos h1, if_pos (by omega)]
      have := hd (j - (a + i * 4)) (by omega)
      rw [show a + i * 4 + (j - (a + i * 4)) = j by omega, show i * 4 + (j - (a + i * 4)) = j - a by omega] at this
      exact this
    · rw [if_neg h1, h.at' j hj]
      by_cases h2 : a ≤ j ∧ j < a + i * 4
      · rw [if_pos h2, if_pos (by omega)]
      · rw [if_neg h2, if_neg (by omega)]
theorem MidT.tear {B lb : List UInt8} {a i T : Nat} {A : Bool} {s : FlS} (h : MidT B lb a i T A s) (hf : s.fails = true) (hi : (i + 1) * 4 ≤ lb.length) (hl : a + lb.length ≤ B.length) :
    s.wordErr (a + i * 4) (word4 lb i) = 5 ∧ (s.word (a + i * 4) (word4 lb i)).Down ∧ A = true ∧ ∀ j, j < B.length → (s.word (a + i * 4) (word4 lb i)).B.getD j 0 = tornW B lb a i T j := by
  obtain ⟨hu, ha, hm⟩ := h.up.torn hf
  refine ⟨by unfold FlS.wordErr; rw [if_pos hu.off], ⟨hu.off, hu.free, FlS.word_ok h.up.ok _ _⟩, h.arm ha, fun j hj => ?_⟩
  show (progK s.B (a + i * 4) (word4 lb i) s.mask 4).getD j 0 = _
  rw [progK_getD _ _ _ _ _ (by rw [h.len]; omega), hm, h.at' j hj]
  unfold tornW
  by_cases h1 : a + i * 4 ≤ j ∧ j < a + i * 4 + 4
  · rw [if_pos h1, if_neg (by omega), if_neg (by omega), if_pos h1, word4_getD _ _ _ (by omega), show i * 4 + (j - (a + i * 4)) = j - a by omega]
  · rw [if_neg h1, if_neg h1]
theorem MidT.run {B lb : List UInt8} {a T : Nat} {A : Bool} (hl : a + lb.length ≤ B.length) (hw : ∀ j, j < lb.length → B.getD (a + j) 0 &&& lb.getD j 0 = lb.getD j 0) : ∀ (r i : Nat) (s : FlS), MidT B lb a i T A s → (i + r) * 4 ≤ lb.length →
    ((FlS.progW lb a r i s).2 = 0 ∧ MidT B lb a (i + r) T A (FlS.progW lb a r i s).1) ∨
    ((FlS.progW lb a r i s).2 = 5 ∧ (FlS.progW lb a r i s).1.Down ∧ A = true ∧ ∃ n, n < i + r ∧ ∀ j, j < B.length → (FlS.progW lb a r i s).1.B.getD j 0 = tornW B lb a n T j) := by
  intro r
  induction r with
  | zero => intro i s h _; exact .inl ⟨rfl, h⟩
  | succ r ih =>
    intro i s h hi
    by_cases hf : s.fails = true
    · obtain ⟨h1, h2, h3, h4⟩ := h.tear hf (by omega) hl
      unfold FlS.progW
      rw [if_neg (by rw [h1]; omega)]
      exact .inr ⟨h1, h2, h3, i, by omega, h4⟩
    · obtain ⟨h1, h2⟩ := h.next (by simpa using hf) (by omega) hl hw
      unfold FlS.progW
      rw [if_pos h1]
      have := ih (i + 1) _ h2 (by omega)
      rw [show i + (r + 1) = i + 1 + r by omega]
      exact this
/-- what is programmed is there, or the power has gone in a word -/
theorem up_prog {s : FlS} {T : Nat} (h : s.Up T) (a : Nat) (lb : List UInt8) (h4 : lb.length % 4 = 0) (hl : a + lb.length ≤ s.B.length) (hw : ∀ j, j < lb.length → s.B.getD (a + j) 0 &&& lb.getD j 0 = lb.getD j 0) :
    ((s.prog a lb).2 = 0 ∧ (s.prog a lb).1.Up T ∧ ((s.prog a lb).1.armed = true → s.armed = true) ∧ ∀ j, j < s.B.length → (s.prog a lb).1.B.getD j 0 = if a ≤ j ∧ j < a + lb.length then lb.getD (j - a) 0 else s.B.getD j 0) ∨
    ((s.prog a lb).2 = 5 ∧ (s.prog a lb).1.Down ∧ s.armed = true ∧ ∃ n, n < lb.length / 4 ∧ ∀ j, j < s.B.length → (s.prog a lb).1.B.getD j 0 = tornW s.B lb a n T j) := by
  unfold FlS.prog
  rw [if_neg (by simp [h.off]), if_pos hl]
  rcases MidT.run hl hw (lb.length / 4) 0 s ⟨rfl, h, fun c => c, fun j hj => by rw [if_neg (by omega)]⟩ (by omega) with ⟨h1, h2⟩ | ⟨h1, h2, h3, n, hn, h5⟩
  · refine .inl ⟨h1, h2.up, h2.arm, fun j hj => ?_⟩
    rw [h2.at' j hj, show (0 + lb.length / 4) * 4 = lb.length by omega]
  · exact .inr ⟨h1, h2, h3, n, by omega, h5⟩
theorem eraK_any (B : List UInt8) (page m A : Nat) (hA : page * 256 = A) (k : Nat) : A + k ≤ B.length → ∀ j, (eraK B page m k).getD j 0 = if A ≤ j ∧ j < A + k ∧ m / 2 ^ ((j - A) % 32) % 2 = 1 then 255 else B.getD j 0 := by
  induction k with
  | zero =>
    intro _ j
    rw [if_neg (by omega)]
    simp only [eraK]
  | succ k ih =>
    intro h j
    have ih := ih (by omega) j
    have hl := eraK_length B page m k
    unfold eraK
    rw [hA]
    clear hA
    by_cases hm : m / 2 ^ (k % 32) % 2 = 1
    · rw [if_pos hm]
      simp only [List.getD_eq_getElem?_getD] at ih ⊢
      by_cases hj : j = A + k
      · subst hj
        rw [List.getElem?_set_self (by omega), if_pos ⟨by omega, by omega, by rw [show A + k - A = k by omega]; exact hm⟩]
        rfl
      · rw [List.getElem?_set_ne (by omega), ih]
        clear ih hl
        by_cases h2 : A ≤ j ∧ j < A + k ∧ m / 2 ^ ((j - A) % 32) % 2 = 1
        · rw [if_pos h2, if_pos ⟨h2.1, by omega, h2.2.2⟩]
        · rw [if_neg h2, if_neg fun c => h2 ⟨c.1, by omega, c.2.2⟩]
    · rw [if_neg hm, ih]
      by_cases h2 : A ≤ j ∧ j < A + k ∧ m / 2 ^ ((j - A) % 32) % 2 = 1
      · rw [if_pos h2, if_pos ⟨h2.1, by omega, h2.2.2⟩]
      · rw [if_neg h2, if_neg fun c => ?_]
        by_cases hj : j = A + k
        · rw [hj, show A + k - A = k by omega] at c
          exact hm c.2.2
        · exact h2 ⟨c.1, by omega, c.2.2⟩
/-- a page is erased, or the power has gone in it -/
theorem up_era {s : FlS} {T : Nat} (h : s.Up T) (page A : Nat) (hA : page * 256 = A) (hp : page < s.worn.length) :
    ((s.era page).2 = 0 ∧ (s.era page).1.Up T ∧ ((s.era page).1.armed = true → s.armed = true) ∧ ∀ j, j < s.B.length → (s.era page).1.B.getD j 0 = if A ≤ j ∧ j < A + 256 then 255 else s.B.getD j 0) ∨
    ((s.era page).2 = 5 ∧ (s.era page).1.Down ∧ s.armed = true ∧ ∀ j, j < s.B.length → (s.era page).1.B.getD j 0 = if A ≤ j ∧ j < A + 256 ∧ T / 2 ^ ((j - A) % 32) % 2 = 1 then 255 else s.B.getD j 0) := by
  have hpg := h.ok.pages
  unfold FlS.era
  rw [if_neg (by simp [h.off]), if_neg (by omega)]
  by_cases hf : s.fails = true
  · obtain ⟨hu, ha, hm⟩ := h.torn hf
    refine .inr ⟨by rw [if_pos hu.off], ⟨hu.off, hu.free, FlS.eraS_ok h.ok page⟩, ha, fun j hj => ?_⟩
    show (eraK s.B page s.mask 256).getD j 0 = _
    rw [hm]
    exact eraK_any s.B page _ A hA 256 (by omega) j
  · obtain ⟨hu, ha, hm⟩ := h.step (by simpa using hf)
    refine .inl ⟨by rw [if_neg (by simp [hu.off])], ⟨hu.off, hu.free, FlS.eraS_ok h.ok page, hu.tear⟩, ha, fun j hj => ?_⟩
    show (eraK s.B page s.mask 256).getD j 0 = _
    rw [hm]
    have := eraK_getD s.B page _ ones32 256 (by omega) j
    rw [hA] at this
    exact this
/-- a page's bytes, behind a writing in which the power has gone -/
inductive PgTorn (T : Nat) (D b D' : List UInt8) : Prop
  | zero (h : ∀ i, i < 160 → D'.getD i 0 = if i < 4 then dropByte (D.getD i 0) 0 (T / 2 ^ (8 * i)) else D.getD i 0) : PgTorn T D b D'
  | era (h : ∀ i, i < 160 → D'.getD i 0 = if T / 2 ^ (i % 32) % 2 = 1 then 255 else if i < 4 then 0 else D.getD i 0) : PgTorn T D b D'
  | prog (n : Nat) (hn : n < 40) (h : ∀ i, i < 160 → D'.getD i 0 = tornAt b n T i) : PgTorn T D b D'
theorem pg_getD (s : FlS) (k i : Nat) (hi : i < 160) : (s.pg k).getD i 0 = s.B.getD (256 * k + i) 0 := by
  rw [List.getD_eq_getElem?_getD, List.getD_eq_getElem?_getD, pg_get, if_pos hi]
theorem zero4 (j : Nat) : ([0, 0, 0, 0] : List UInt8).getD j 0 = 0 := by
  match j with
  | 0 => rfl
  | 1 => rfl
  | 2 => rfl
  | 3 => rfl
  | n + 4 => rfl
/-- a page is written, or the power has gone -/
theorem up_write {s : FlS} {T : Nat} (h : s.Up T) (to A : Nat) (hA : to * 256 = A) (b : List UInt8) (hb : b.length = 160) (ht : to < s.worn.length) :
    ((s.write to b).1.B.length = s.B.length ∧ (s.write to b).1.worn.length = s.worn.length ∧ ∀ j, j < s.B.length → ¬ (A ≤ j ∧ j < A + 256) → (s.write to b).1.B.getD j 0 = s.B.getD j 0) ∧
    (((s.write to b).2 = 0 ∧ (s.write to b).1.Up T ∧ ((s.write to b).1.armed = true → s.armed = true) ∧ (s.write to b).1.pg to = b) ∨
    ((s.write to b).2 = 5 ∧ (s.write to b).1.Down ∧ s.armed = true ∧ PgTorn T (s.pg to) b ((s.write to b).1.pg to))) := by
  have hpg := h.ok.pages
  have hq : 256 * to = A := by rw [Nat.mul_comm]; exact hA
  have hAl : A + 256 ≤ s.B.length := by omega
  have he0 : s.write to b = if (s.prog A [0, 0, 0, 0]).2 ≠ 0 then s.prog A [0, 0, 0, 0]
      else if ((s.prog A [0, 0, 0, 0]).1.era to).2 ≠ 0 then (s.prog A [0, 0, 0, 0]).1.era to
      else ((s.prog A [0, 0, 0, 0]).1.era to).1.prog A b := by unfold FlS.write; rw [hA]
  have l1 := FlS.prog_length s (A) [0, 0, 0, 0]
  have w1 := FlS.prog_worn s (A) [0, 0, 0, 0]
  have h4 : ([0, 0, 0, 0] : List UInt8).length = 4 := rfl
  rcases up_prog h (A) [0, 0, 0, 0] rfl (by omega) (fun j hj => by rw [zero4]; exact and_zero8 _) with ⟨a1, a2, aa, a3⟩ | ⟨a1, a2, aa, n, hn, a3⟩
  · rw [h4] at a3
    have l2 := FlS.era_length (s.prog (A) [0, 0, 0, 0]).1 to
    have w2 := FlS.era_wornlen (s.prog (A) [0, 0, 0, 0]).1 to
    rcases up_era a2 to A hA (by rw [w1]; exact ht) with ⟨b1, b2, bb, b3⟩ | ⟨b1, b2, bb, b3⟩
    · have he : s.write to b = ((s.prog (A) [0, 0, 0, 0]).1.era to).1.prog (A) b := by
        rw [he0]
        rw [if_neg (by simp [a1]), if_neg (by simp [b1])]
      have l3 := FlS.prog_length ((s.prog (A) [0, 0, 0, 0]).1.era to).1 (A) b
      have w3 := FlS.prog_worn ((s.prog (A) [0, 0, 0, 0]).1.era to).1 (A) b
      have hB2 : ∀ j, j < s.B.length → ((s.prog (A) [0, 0, 0, 0]).1.era to).1.B.getD j 0 = if A ≤ j ∧ j < A + 256 then 255 else s.B.getD j 0 := fun j hj => by
        rw [b3 j (by omega)]
        by_cases c : A ≤ j ∧ j < A + 256
        · rw [if_pos c, if_pos c]
        · rw [if_neg c, if_neg c, a3 j hj, if_neg (by omega)]
      rw [he]
      rcases up_prog b2 (A) b (by omega) (by omega) (fun j hj => by rw [hB2 _ (by omega), if_pos (by omega)]; exact and_ones8 _) with ⟨c1, c2, cc, c3⟩ | ⟨c1, c2, cc, n, hn, c3⟩
      · refine ⟨⟨by rw [l3, l2, l1], by rw [w3, w2, w1], fun j hj c => ?_⟩, .inl ⟨c1, c2, fun z => aa (bb (cc z)), pg_new to b hb (by omega) fun j j1 j2 => ?_⟩⟩
        · rw [c3 j (by omega), if_neg (by omega), hB2 j hj, if_neg c]
        · rw [c3 j (by omega), if_pos (by omega), hq]
      · refine ⟨⟨by rw [l3, l2, l1], by rw [w3, w2, w1], fun j hj c => ?_⟩, .inr ⟨c1, c2, aa (bb cc), .prog n (by omega) fun i hi => ?_⟩⟩
        · rw [c3 j (by omega)]
          unfold tornW
          rw [if_neg (by omega), if_neg (by omega), hB2 j hj, if_neg c]
        · rw [pg_getD _ _ _ hi, c3 _ (by omega)]
          unfold tornW tornAt
          rw [hq, hB2 _ (by omega), if_pos (show A ≤ A + i ∧ A + i < A + 256 by omega), show A + i - A = i by omega]
          by_cases d1 : i < n * 4
          · rw [if_pos d1, if_pos (by omega)]
          · rw [if_neg d1, if_neg (by omega)]
            by_cases d2 : i < n * 4 + 4
            · rw [if_pos d2, if_pos (by omega), show A + i - (A + n * 4) = i - n * 4 by omega]
            · rw [if_neg d2, if_neg (by omega)]
    · have he : s.write to b = (s.prog (A) [0, 0, 0, 0]).1.era to := by
        rw [he0]
        rw [if_neg (by simp [a1]), if_pos (by simp [b1])]
      rw [he]
      refine ⟨⟨by rw [l2, l1], by rw [w2, w1], fun j hj c => ?_⟩, .inr ⟨b1, b2, aa bb, .era fun i hi => ?_⟩⟩
      · rw [b3 j (by omega), if_neg (by omega), a3 j hj, if_neg (by omega)]
      · rw [pg_getD _ _ _ hi, pg_getD _ _ _ hi, b3 _ (by omega), hq, a3 _ (by omega), show A + i - A = i by omega, zero4]
        by_cases d1 : T / 2 ^ (i % 32) % 2 = 1
        · rw [if_pos d1, if_pos ⟨by omega, by omega, d1⟩]
        · rw [if_neg d1, if_neg (fun c => d1 c.2.2)]
          by_cases d2 : i < 4
          · rw [if_pos d2, if_pos (by omega)]
          · rw [if_neg d2, if_neg (by omega)]
  · rw [h4] at hn
    have hn0 : n = 0 := by omega
    subst hn0
    have he : s.write to b = s.prog (A) [0, 0, 0, 0] := by
      rw [he0]
      rw [if_pos (by simp [a1])]
    rw [he]
    refine ⟨⟨l1, by rw [w1], fun j hj c => ?_⟩, .inr ⟨a1, a2, aa, .zero fun i hi => ?_⟩⟩
    · rw [a3 j hj]
      unfold tornW
      rw [if_neg (by omega), if_neg (by omega)]
    · rw [pg_getD _ _ _ hi, pg_getD _ _ _ hi, a3 _ (by omega), hq]
      unfold tornW
      rw [if_neg (by omega), zero4]
      by_cases d2 : i < 4
      · rw [if_pos d2, if_pos (by omega), show A + i - (A + 0 * 4) = i by omega]
      · rw [if_neg d2, if_neg (by omega)]
end Go.Proofs.Ytjmgnfpcieofkaa

/- A page of settings behind torn steps: it tells of no record that is as new as the other one's. No Go function is spoken of. -/
namespace Go.Proofs.Ytjmgnfpcieofkaa
set_option linter.unusedVariables false
set_option linter.unusedSimpArgs false

/-- what of a step is done in round i -/
def tearK (t i : Nat) : Nat := t ^^^ (i * 2654435769 % 4294967296)
/-- in which bits the tears of two rounds differ -/
def xK (j k : Nat) : Nat := (j * 2654435769 % 4294967296) ^^^ (k * 2654435769 % 4294967296)
theorem xor_aux (t y z b : Nat) : (t ^^^ z).testBit b = Bool.xor ((t ^^^ y).testBit b) ((y ^^^ z).testBit b) := by
  simp only [Nat.testBit_xor]
  cases t.testBit b <;> cases y.testBit b <;> cases z.testBit b <;> rfl
theorem tearK_bit (t j k b : Nat) : (tearK t k).testBit b = Bool.xor ((tearK t j).testBit b) ((xK j k).testBit b) := by
  unfold tearK xK
  exact xor_aux t _ _ b
/-- may both rounds be part of a mark that was made anew? -/
def canK (j k : Nat) : Bool := (xK j k).testBit 1 && !(xK j k).testBit 14 && !(xK j k).testBit 22
def markBits : List Nat := [1, 6, 8, 9, 12, 14, 17, 18, 19, 22, 24, 28, 29]
def likeK (j k m : Nat) : Bool := markBits.all fun b => (xK j k).testBit b == (xK j m).testBit b
/-- bits that the mark lacks, and what they are in the tear of an erasure -/
def lowBits : List (Nat × Bool) := [(0, true), (2, true), (3, true), (13, false), (15, false), (20, false), (21, false), (23, false), (25, false), (26, false), (27, false)]
def checkK : Bool := (List.range 25).all fun j => (List.range 25).all fun m => !decide (j < m) || !canK j m || lowBits.any fun x => (List.range 25).all fun k => !decide (j < k) || !canK j k || !likeK j k m || (Bool.xor x.2 ((xK j k).testBit x.1) == false)
theorem checkK_true : checkK = true := by decide +kernel
theorem check_low (j m : Nat) (hj : j < m) (hm : m < 25) (hc : canK j m = true) : ∃ x ∈ lowBits, ∀ k, j < k → k < 25 → canK j k = true → likeK j k m = true → Bool.xor x.2 ((xK j k).testBit x.1) = false := by
  have h := checkK_true
  unfold checkK at h
  rw [List.all_eq_true] at h
  have h := h j (List.mem_range.2 (by omega))
  rw [List.all_eq_true] at h
  have h := h m (List.mem_range.2 hm)
  rw [hc, decide_eq_true hj] at h
  simp only [Bool.not_true, Bool.false_or] at h
  rw [List.any_eq_true] at h
  obtain ⟨x, hx, h⟩ := h
  refine ⟨x, hx, fun k k1 k2 k3 k4 => ?_⟩
  rw [List.all_eq_true] at h
  have h := h k (List.mem_range.2 k2)
  rw [k3, k4, decide_eq_true k1] at h
  simpa using h

/-- what a page is, behind torn steps, beside one that tells of the record of a number: whole rounds are as many as i -/
inductive Odd (t i q : Nat) (D : List UInt8) : Prop
  | open (h : ∀ p, 156 ≤ p → p < 160 → D.getD p 0 = 255) : Odd t i q D
  | mark (p c : Nat) (hp : p < 4) (hc : c < 8) (hm : 8 * p + c ∈ markBits) (h : (D.getD p 0).toNat.testBit c = false) : Odd t i q D
  | old (hm : numS D 0 4 = 827216706) (h : recErr D = 0 → (readS D).seq < q) : Odd t i q D
  | torn (j : Nat) (S : List Nat) (hj : j < i) (hS : ∀ k ∈ S, j < k ∧ k < i) (hw : ∀ p, p < 4 → ∀ c, c < 8 → (D.getD p 0).toNat.testBit c = S.all fun k => !(tearK t k).testBit (8 * p + c))
      (h4 : ∀ c, c < 4 → (tearK t j).testBit c = true) (hb : ∀ p, 4 ≤ p → p < 32 → (tearK t j).testBit p = true → D.getD p 0 = 255) : Odd t i q D
theorem Odd.mono {t i q i' q' : Nat} {D : List UInt8} (h : Odd t i q D) (hi : i ≤ i') (hq : q ≤ q') : Odd t i' q' D := by
  rcases h with h | ⟨p, c, hp, hc, hm, h⟩ | ⟨hm, h⟩ | ⟨j, S, hj, hS, hw, h4, hb⟩
  · exact .open h
  · exact .mark p c hp hc hm h
  · exact .old hm fun z => Nat.lt_of_lt_of_le (h z) hq
  · exact .torn j S (by omega) (fun k hk => ⟨(hS k hk).1, by have := (hS k hk).2; omega⟩) hw h4 hb

/-- the mark's bytes -/
theorem mark_bytes {D : List UInt8} (h : numS D 0 4 = 827216706) : (D.getD 0 0).toNat = 66 ∧ (D.getD 1 0).toNat = 83 ∧ (D.getD 2 0).toNat = 78 ∧ (D.getD 3 0).toNat = 49 := by
  rw [numS_four] at h
  have a0 := UInt8.toNat_lt (D.getD 0 0)
  have a1 := UInt8.toNat_lt (D.getD 1 0)
  have a2 := UInt8.toNat_lt (D.getD 2 0)
  have a3 := UInt8.toNat_lt (D.getD 3 0)
  rw [show 0 + 1 = 1 from rfl, show 0 + 2 = 2 from rfl, show 0 + 3 = 3 from rfl] at h
  generalize (D.getD 0 0).toNat = x0 at *
  generalize (D.getD 1 0).toNat = x1 at *
  generalize (D.getD 2 0).toNat = x2 at *
  generalize (D.getD 3 0).toNat = x3 at *
  refine ⟨?_, ?_, ?_, ?_⟩ <;> omega
theorem mark_bit {D : List UInt8} (h : numS D 0 4 = 827216706) (p c : Nat) (hp : p < 4) (hc : c < 8) : (D.getD p 0).toNat.testBit c = decide (8 * p + c ∈ markBits) := by
  obtain ⟨h0, h1, h2, h3⟩ := mark_bytes h
  have hd : ∀ p, p < 4 → ∀ c, c < 8 → (if p = 0 then 66 else if p = 1 then 83 else if p = 2 then 78 else 49 : Nat).testBit c = decide (8 * p + c ∈ markBits) := by decide
  rw [← hd p hp c hc]
  match p, hp with
  | 0, _ => rw [h0]; rfl
  | 1, _ => rw [h1]; rfl
  | 2, _ => rw [h2]; rfl
  | 3, _ => rw [h3]; rfl
theorem recErr_mark {D : List UInt8} (h : recErr D = 0) : D.length = 160 ∧ numS D 0 4 = 827216706 ∧ numS D 156 4 = chkN (D.take 156) ∧ (readS D).right = true ∧ recBytes (readS D) = D := by
  unfold recErr at h
  split at h
  · cases h
  · rename_i h1
    split at h
    · cases h
    · rename_i h2
      split at h
      · rename_i h3
        exact ⟨by omega, by omega, by omega, h3.1, h3.2⟩
      · cases h
theorem recBytes_22 (s : RecS) : (recBytes s).getD 22 0 = 0 ∧ (recBytes s).getD 23 0 = 0 := by
  unfold recBytes recHead wordB
  simp
/-- which bytes of a record aren't 255 -/
theorem low_bytes {D : List UInt8} (h : recErr D = 0) : ∀ p ∈ [13, 14, 15, 20, 21, 22, 23, 25, 26, 27], D.getD p 0 ≠ 255 := by
  obtain ⟨hl, hm, hk, hr, he⟩ := recErr_mark h
  have h21 := recBytes_21 (readS D)
  obtain ⟨h22, h23⟩ := recBytes_22 (readS D)
  rw [he] at h21 h22 h23
  simp only [RecS.right, decide_eq_true_eq] at hr
  obtain ⟨r1, r2, r3, r4, _⟩ := hr
  have e1 : numS D 12 4 ≤ 4096 := r1
  have e2 : numS D 24 4 ≤ 4096 := r2
  have e3 : (D.getD 20 0).toNat ≤ 2 := r3
  rw [numS_four] at e1 e2
  simp only [Nat.reduceAdd] at e1 e2
  have e4 : (D.getD 21 0).toNat ≤ 128 := by
    rw [h21]
    generalize (readS D).init.length = n at r4
    simp
    omega
  have n255 : ∀ x : UInt8, x = 255 → x.toNat = 255 := fun x hx => by rw [hx]; rfl
  intro p hp c
  have hc := n255 _ c
  simp only [List.mem_cons, List.not_mem_nil, or_false] at hp
  rcases hp with rfl | rfl | rfl | rfl | rfl | rfl | rfl | rfl | rfl | rfl
  · omega
  · omega
  · omega
  · omega
  · omega
  · rw [h22] at c; exact absurd c (by decide)
  · rw [h23] at c; exact absurd c (by decide)
  · omega
  · omega
  · omega
/-- what is odd tells of no record that is as new -/
theorem Odd.safe {t i q : Nat} {D : List UInt8} (h : Odd t i q D) (hi : i ≤ 25) (he : recErr D = 0) : (readS D).seq < q := by
  obtain ⟨hl, hm, hk, hr, hrb⟩ := recErr_mark he
  rcases h with h | ⟨p, c, hp, hc, hmb, h⟩ | ⟨_, h⟩ | ⟨j, S, hj, hS, hw, h4, hb⟩
  · exfalso
    rw [numS_four, h 156 (by omega) (by omega), h (156 + 1) (by omega) (by omega), h (156 + 2) (by omega) (by omega), h (156 + 3) (by omega) (by omega)] at hk
    have h255 : (255 : UInt8).toNat = 255 := rfl
    rw [h255] at hk
    unfold chkN at hk
    split at hk
    · omega
    · omega
  · exfalso
    rw [mark_bit hm p c hp hc, decide_eq_true hmb] at h
    cases h
  · exact h he
  · exfalso
    have hlow := low_bytes he
    -- the bits of the mark are in no tear
    have hz : ∀ b ∈ markBits, ∀ k ∈ S, (tearK t k).testBit b = false := by
      intro b hb2 k hk2
      have hb32 : b < 32 := by
        have : ∀ b ∈ markBits, b < 32 := by decide
        exact this b hb2
      have hw1 := hw (b / 8) (by omega) (b % 8) (by omega)
      have e : 8 * (b / 8) + b % 8 = b := by omega
      rw [mark_bit hm _ _ (by omega) (by omega), e, decide_eq_true hb2] at hw1
      have := List.all_eq_true.1 hw1.symm k hk2
      simpa using this
    have hone : ∀ b, b < 32 → b ∉ markBits → ∃ k ∈ S, (tearK t k).testBit b = true := by
      intro b hb32 hb2
      have hw1 := hw (b / 8) (by omega) (b % 8) (by omega)
      have e : 8 * (b / 8) + b % 8 = b := by omega
      rw [mark_bit hm _ _ (by omega) (by omega), e, decide_eq_false hb2] at hw1
      obtain ⟨k, k1, k2⟩ := List.all_eq_false.1 hw1.symm
      exact ⟨k, k1, by simpa using k2⟩
    have hj0 : ∀ p ∈ [13, 14, 15, 20, 21, 22, 23, 25, 26, 27], (tearK t j).testBit p = false := by
      intro p hp
      cases hc : (tearK t j).testBit p with
      | false => rfl
      | true =>
        have hp2 : 4 ≤ p ∧ p < 32 := by
          have : ∀ p ∈ [13, 14, 15, 20, 21, 22, 23, 25, 26, 27], 4 ≤ p ∧ p < 32 := by decide
          exact this p hp
        exact absurd (hb p hp2.1 hp2.2 hc) (hlow p hp)
    have hcan : ∀ k ∈ S, canK j k = true := by
      intro k hk2
      have b1 := tearK_bit t j k 1
      have b2 := tearK_bit t j k 14
      have b3 := tearK_bit t j k 22
      rw [hz 1 (by decide) k hk2, h4 1 (by omega)] at b1
      rw [hz 14 (by decide) k hk2, hj0 14 (by decide)] at b2
      rw [hz 22 (by decide) k hk2, hj0 22 (by decide)] at b3
      unfold canK
      revert b1 b2 b3
      cases (xK j k).testBit 1 <;> cases (xK j k).testBit 14 <;> cases (xK j k).testBit 22 <;> decide
    obtain ⟨m, hmS, _⟩ := hone 0 (by omega) (by decide)
    have hmi := hS m hmS
    have hlike : ∀ k ∈ S, likeK j k m = true := by
      intro k hk2
      unfold likeK
      rw [List.all_eq_true]
      intro b hb2
      have b1 := tearK_bit t j k b
      have b2 := tearK_bit t j m b
      rw [hz b hb2 k hk2] at b1
      rw [hz b hb2 m hmS] at b2
      revert b1 b2
      cases (xK j k).testBit b <;> cases (xK j m).testBit b <;> cases (tearK t j).testBit b <;> decide
    obtain ⟨x, hx, hall⟩ := check_low j m hmi.1 (by omega) (hcan m hmS)
    have hxb : x.1 < 32 ∧ x.1 ∉ markBits := by
      have : ∀ x ∈ lowBits, x.1 < 32 ∧ x.1 ∉ markBits := by decide
      exact this x hx
    have hxj : (tearK t j).testBit x.1 = x.2 := by
      simp only [lowBits, List.mem_cons, List.not_mem_nil, or_false] at hx
      rcases hx with rfl | rfl | rfl | rfl | rfl | rfl | rfl | rfl | rfl | rfl | rfl
      · exact h4 0 (by omega)
      · exact h4 2 (by omega)
      · exact h4 3 (by omega)
      all_goals exact hj0 _ (by decide)
    obtain ⟨k, k1, k2⟩ := hone x.1 hxb.1 hxb.2
    have hki := hS k k1
    have := hall k hki.1 (by omega) (hcan k k1) (hlike k k1)
    rw [tearK_bit t j k, hxj, this] at k2
    cases k2
theorem dropZero_bit (x : UInt8) (T p c : Nat) (hc : c < 8) : (dropByte x 0 (T / 2 ^ (8 * p))).toNat.testBit c = (x.toNat.testBit c && !T.testBit (8 * p + c)) := by
  rw [dropByte_toNat, UInt8.toNat_zero, Nat.zero_or, Nat.testBit_and]
  have e : 255 - T / 2 ^ (8 * p) % 256 = 2 ^ 8 - (T / 2 ^ (8 * p) % 2 ^ 8 + 1) := by omega
  rw [e, Nat.testBit_two_pow_sub_succ (Nat.mod_lt _ (by decide)), Nat.testBit_mod_two_pow, Nat.testBit_div_two_pow, Nat.add_comm c]
  simp [hc]
theorem byte_bits {x y : UInt8} (h : ∀ c, c < 8 → x.toNat.testBit c = y.toNat.testBit c) : x = y := by
  apply UInt8.toNat_inj.1
  apply Nat.eq_of_testBit_eq
  intro c
  by_cases hc : c < 8
  · exact h c hc
  · have h1 := UInt8.toNat_lt x
    have h2 := UInt8.toNat_lt y
    have h3 : 2 ^ 8 ≤ 2 ^ c := Nat.pow_le_pow_right (by decide) (by omega)
    rw [Nat.testBit_lt_two_pow (by omega), Nat.testBit_lt_two_pow (by omega)]
theorem list_getD {l m : List UInt8} (hl : l.length = 160) (hm : m.length = 160) (h : ∀ i, i < 160 → l.getD i 0 = m.getD i 0) : l = m := by
  apply List.ext_getElem?
  intro i
  by_cases hi : i < 160
  · exact get_of_getD (by omega) (by omega) (h i hi)
  · rw [List.getElem?_eq_none (by omega), List.getElem?_eq_none (by omega)]
theorem getD_take (l : List UInt8) (n i : Nat) (h : i < n) : (l.take n).getD i 0 = l.getD i 0 := by
  rw [List.getD_eq_getElem?_getD, List.getD_eq_getElem?_getD, List.getElem?_take, if_pos h]
/-- behind a torn writing the page is the one that was to be, or odd -/
theorem Odd.tear {t i q : Nat} {D D' : List UInt8} {w : RecS} (h : Odd t i q D) (hl : D.length = 160) (hl' : D'.length = 160) (ok : w.Ok) (hr : w.right = true) (ht : PgTorn (tearK t i) D (recBytes w) D') :
    D' = recBytes w ∨ Odd t (i + 1) q D' := by
  have hil : w.init.length ≤ 128 := by
    simp only [RecS.right, decide_eq_true_eq] at hr
    exact hr.2.2.2.1
  have hbl := recBytes_len w hil
  rcases ht with ht | ht | ⟨n, hn, ht⟩
  · right
    rcases h with h | ⟨p, c, hp, hc, hmb, h⟩ | ⟨hm, h⟩ | ⟨j, S, hj, hS, hw, h4, hb⟩
    · exact .open fun p p1 p2 => by rw [ht p p2, if_neg (by omega)]; exact h p p1 p2
    · refine .mark p c hp hc hmb ?_
      rw [ht p (by omega), if_pos hp, dropZero_bit _ _ _ _ hc, h]
      rfl
    · by_cases hd : ∀ p, p < 4 → ∀ c, c < 8 → 8 * p + c ∈ markBits → (tearK t i).testBit (8 * p + c) = false
      · have e : D' = D := by
          refine list_getD hl' hl fun k hk => ?_
          rw [ht k hk]
          by_cases hk4 : k < 4
          · rw [if_pos hk4]
            refine byte_bits fun c hc => ?_
            rw [dropZero_bit _ _ _ _ hc, mark_bit hm k c hk4 hc]
            by_cases hmb : 8 * k + c ∈ markBits
            · rw [hd k hk4 c hc hmb]; simp
            · simp [hmb]
          · rw [if_neg hk4]
        rw [e]
        exact .old hm h
      · have hd : ∃ p, p < 4 ∧ ∃ c, c < 8 ∧ 8 * p + c ∈ markBits ∧ (tearK t i).testBit (8 * p + c) = true := by
          refine Classical.byContradiction fun hn => hd fun p hp c hc hmb => ?_
          cases hb : (tearK t i).testBit (8 * p + c) with
          | false => rfl
          | true => exact absurd ⟨p, hp, c, hc, hmb, hb⟩ hn
        obtain ⟨p, hp, c, hc, hmb, hb⟩ := hd
        refine .mark p c hp hc hmb ?_
        rw [ht p (by omega), if_pos hp, dropZero_bit _ _ _ _ hc, hb]
        simp
    · refine .torn j (i :: S) (by omega) (fun k hk => ?_) (fun p hp c hc => ?_) h4 (fun p p1 p2 hc => ?_)
      · rcases List.mem_cons.1 hk with rfl | hk
        · omega
        · have := hS k hk; omega
      · rw [ht p (by omega), if_pos hp, dropZero_bit _ _ _ _ hc, hw p hp c hc, List.all_cons, Bool.and_comm]
      · rw [ht p (by omega), if_neg (by omega)]
        exact hb p p1 p2 hc
  · right
    have hbit : ∀ k, tearK t i / 2 ^ k % 2 = 1 ↔ (tearK t i).testBit k = true := fun k => by
      rw [Nat.testBit_eq_decide_div_mod_eq, decide_eq_true_eq]
    by_cases hd : ∀ c, c < 4 → (tearK t i).testBit c = true
    · refine .torn i [] (by omega) (fun k hk => by cases hk) (fun p hp c hc => ?_) hd (fun p p1 p2 hc => ?_)
      · rw [ht p (by omega), if_pos ((hbit _).2 (by rw [Nat.mod_eq_of_lt (by omega)]; exact hd p hp))]
        have : ∀ c, c < 8 → (255 : UInt8).toNat.testBit c = true := by decide
        exact this c hc
      · rw [ht p (by omega), if_pos ((hbit _).2 (by rw [Nat.mod_eq_of_lt p2]; exact hc))]
    · have hd : ∃ c, c < 4 ∧ (tearK t i).testBit c = false := by
        refine Classical.byContradiction fun hn => hd fun c hc => ?_
        cases hb : (tearK t i).testBit c with
        | true => rfl
        | false => exact absurd ⟨c, hc, hb⟩ hn
      obtain ⟨p, hp, hb⟩ := hd
      have e : D'.getD p 0 = 0 := by
        rw [ht p (by omega), if_neg (fun c => ?_), if_pos hp]
        have := (hbit _).1 c
        rw [Nat.mod_eq_of_lt (by omega), hb] at this
        cases this
      have hc : ∃ c, c < 8 ∧ 8 * p + c ∈ markBits := by
        have : ∀ p, p < 4 → ∃ c, c < 8 ∧ 8 * p + c ∈ markBits := by decide
        exact this p hp
      obtain ⟨c, hc, hmb⟩ := hc
      refine .mark p c hp hc hmb ?_
      rw [e, UInt8.toNat_zero, Nat.zero_testBit]
  · by_cases hn9 : n < 39
    · right
      refine .open fun p p1 p2 => ?_
      rw [ht p p2]
      unfold tornAt
      rw [if_neg (by omega), if_neg (by omega)]
    · have hn39 : n = 39 := by omega
      subst hn39
      have hlow : ∀ k, k < 156 → D'.getD k 0 = (recBytes w).getD k 0 := fun k hk => by
        rw [ht k (by omega)]
        unfold tornAt
        rw [if_pos (by omega)]
      have hmk : numS D' 0 4 = 827216706 := by
        have h1 := numS_mark w
        rw [numS_four] at h1 ⊢
        rw [hlow 0 (by omega), hlow (0 + 1) (by omega), hlow (0 + 2) (by omega), hlow (0 + 3) (by omega)]
        exact h1
      by_cases he : recErr D' = 0
      · left
        obtain ⟨_, _, hk, _, _⟩ := recErr_mark he
        obtain ⟨_, _, hk2, _, _⟩ := recErr_mark (recErr_bytes w ok hr)
        have htk : D'.take 156 = (recBytes w).take 156 := by
          apply List.ext_getElem?
          intro k
          by_cases hk : k < 156
          · refine get_of_getD (by rw [List.length_take]; omega) (by rw [List.length_take]; omega) ?_
            rw [getD_take _ _ _ hk, getD_take _ _ _ hk]
            exact hlow k hk
          · rw [List.getElem?_eq_none (by rw [List.length_take]; omega), List.getElem?_eq_none (by rw [List.length_take]; omega)]
        rw [htk, ← hk2] at hk
        refine list_getD hl' hbl fun k hk3 => ?_
        by_cases hk4 : k < 156
        · exact hlow k hk4
        · have := numS_inj hk (k - 156) (by omega)
          rwa [show 156 + (k - 156) = k by omega] at this
      · right
        exact .old hmk fun c => absurd c he
end Go.Proofs.Ytjmgnfpcieofkaa

/- A record is saved, and the power may go: the newest one is the last one, or the one that was to be. No Go function is spoken of. -/
namespace Go.Proofs.Ytjmgnfpcieofkaa
set_option linter.unusedVariables false
set_option linter.unusedSimpArgs false

/-- the newest record is in page pl; the other page is odd -/
structure Two (t i : Nat) (s : FlS) (R : RecS) (pl : Nat) : Prop where
  le : pl ≤ 1
  row : s.pg pl = recBytes R
  ok : R.Ok
  right : R.right = true
  odd : Odd t i R.seq (s.pg (1 - pl))
theorem Two.mono {t i i' : Nat} {s : FlS} {R : RecS} {pl : Nat} (h : Two t i s R pl) (hi : i ≤ i') : Two t i' s R pl := ⟨h.le, h.row, h.ok, h.right, h.odd.mono hi (Nat.le_refl _)⟩
theorem Two.same {t i : Nat} {s s' : FlS} {R : RecS} {pl : Nat} (h : Two t i s R pl) (h0 : s'.pg 0 = s.pg 0) (h1 : s'.pg 1 = s.pg 1) : Two t i s' R pl := by
  have e : ∀ k, k ≤ 1 → s'.pg k = s.pg k := fun k hk => by
    match k, hk with
    | 0, _ => exact h0
    | 1, _ => exact h1
  exact ⟨h.le, by rw [e _ h.le]; exact h.row, h.ok, h.right, by rw [e _ (by omega)]; exact h.odd⟩
theorem right_init {R : RecS} (h : R.right = true) : R.init.length ≤ 128 := by
  simp only [RecS.right, decide_eq_true_eq] at h
  exact h.2.2.2.1
theorem Two.load {t i : Nat} {s : FlS} {R : RecS} {pl : Nat} (h : Two t i s R pl) (hi : i ≤ 25) (hoff : s.off = false) (hB : 512 ≤ s.B.length) : s.load = (R, pl, 0) := by
  obtain ⟨hpl, hpg, ok, hr, hodd⟩ := h
  have he := recErr_bytes R ok hr
  have hrd := read_bytes R ok (right_init hr)
  unfold FlS.load
  rw [if_neg (by omega), if_neg (by simp [hoff]), best_two]
  have hs := hodd.safe hi
  match pl, hpl with
  | 0, _ =>
    rw [hpg, he, hrd]
    simp only [if_true]
    rw [if_neg]
    rintro ⟨c1, c2 | c2⟩
    · omega
    · have := hs c1
      simp only [Nat.sub_zero] at this
      omega
  | 1, _ =>
    rw [hpg, he, hrd]
    simp only [Nat.sub_self] at hs
    by_cases h0 : recErr (s.pg 0) = 0
    · simp only [if_pos h0]
      rw [if_pos ⟨trivial, .inr (hs h0)⟩]
    · simp only [if_neg h0]
      rw [if_pos ⟨trivial, .inl trivial⟩]
theorem pg_len {s : FlS} (k : Nat) (h : 256 * k + 160 ≤ s.B.length) : (s.pg k).length = 160 := by
  unfold FlS.pg
  rw [List.length_take, List.length_drop]
  omega
/-- an old record is odd -/
theorem Odd.ofRec {t i q : Nat} {R : RecS} (ok : R.Ok) (hr : R.right = true) (hq : R.seq < q) : Odd t i q (recBytes R) :=
  .old (numS_mark R) fun _ => by rw [read_bytes R ok (right_init hr)]; exact hq
/-- a record is saved, and the power may go -/
theorem torn_save {t i : Nat} {s : FlS} {R : RecS} {pl : Nat} (hu : s.Up (tearK t i)) (h : Two t i s R pl) (hi : i ≤ 25) (hw : 2 ≤ s.worn.length) (r : RecS) (ok : r.Ok) (hr : r.right = true) (hq : R.seq + 1 < 4294967296) :
    ((s.save r).1.B.length = s.B.length ∧ (s.save r).1.worn.length = s.worn.length ∧ ∀ j, 512 ≤ j → j < s.B.length → (s.save r).1.B.getD j 0 = s.B.getD j 0) ∧
    (((s.save r).2 = ({ r with seq := R.seq + 1 }, 0) ∧ (s.save r).1.Up (tearK t i) ∧ ((s.save r).1.armed = true → s.armed = true) ∧ ∃ pl', Two t i (s.save r).1 { r with seq := R.seq + 1 } pl') ∨
     ((s.save r).2 = (zeroS, 5) ∧ (s.save r).1.Down ∧ s.armed = true ∧ ∃ pl', Two t (i + 1) (s.save r).1 R pl' ∨ Two t (i + 1) (s.save r).1 { r with seq := R.seq + 1 } pl')) := by
  have hpg := hu.ok.pages
  have hL := h.load hi hu.off (by omega)
  have hto : s.to = 1 - pl := by unfold FlS.to; rw [hL]; rfl
  have h3 : ({ r with seq := R.seq + 1 } : RecS).right = true := hr
  have ok3 : ({ r with seq := R.seq + 1 } : RecS).Ok := ⟨hq, ok.floor, ok.bytes, ok.sum, ok.done, ok.init⟩
  have hb := recBytes_len { r with seq := R.seq + 1 } (right_init h3)
  have hpl := h.le
  have hpl1 : 1 - (1 - pl) = pl := by omega
  obtain ⟨A, hA⟩ : ∃ A, (1 - pl) * 256 = A := ⟨_, rfl⟩
  have hA2 : (pl = 0 ∧ A = 256) ∨ (pl = 1 ∧ A = 0) := by omega
  obtain ⟨⟨l1, l2, l3⟩, hcase⟩ := up_write hu (1 - pl) A hA _ hb (by omega)
  have hsame : (s.write (1 - pl) (recBytes { r with seq := R.seq + 1 })).1.pg pl = s.pg pl := by
    refine pg_same pl l1 (by omega) fun j j1 j2 => l3 j (by omega) ?_
    omega
  have hlow : ∀ j, 512 ≤ j → j < s.B.length → (s.write (1 - pl) (recBytes { r with seq := R.seq + 1 })).1.B.getD j 0 = s.B.getD j 0 := by
    intro j j1 j2
    refine l3 j j2 ?_
    omega
  have hnew : (s.write (1 - pl) (recBytes { r with seq := R.seq + 1 })).1.pg (1 - pl) = recBytes { r with seq := R.seq + 1 } → ∀ i', Two t i' (s.write (1 - pl) (recBytes { r with seq := R.seq + 1 })).1 { r with seq := R.seq + 1 } (1 - pl) := fun e i' => by
    refine ⟨by omega, e, ok3, h3, ?_⟩
    rw [hpl1, hsame, h.row]
    exact .ofRec h.ok h.right (Nat.lt_succ_self _)
  rcases hcase with ⟨e1, c2, c3, c4⟩ | ⟨e1, c2, c3, c4⟩
  · have hsv : s.save r = ((s.write (1 - pl) (recBytes { r with seq := R.seq + 1 })).1, { r with seq := R.seq + 1 }, 0) := by
      unfold FlS.save
      rw [hto, hL]
      rw [if_neg (by simp), if_neg (by show ¬ R.seq = 4294967295; omega), if_neg (by simp [h3]), if_neg (by simp [e1])]
    rw [hsv]
    exact ⟨⟨l1, l2, hlow⟩, .inl ⟨rfl, c2, c3, _, hnew c4 i⟩⟩
  · have hsv : s.save r = ((s.write (1 - pl) (recBytes { r with seq := R.seq + 1 })).1, zeroS, 5) := by
      unfold FlS.save
      rw [hto, hL]
      rw [if_neg (by simp), if_neg (by show ¬ R.seq = 4294967295; omega), if_neg (by simp [h3]), if_pos (by simp [e1]), e1]
    rw [hsv]
    refine ⟨⟨l1, l2, hlow⟩, .inr ⟨rfl, c2, c3, ?_⟩⟩
    have hlen : (s.pg (1 - pl)).length = 160 := pg_len _ (by omega)
    have hlen' : ((s.write (1 - pl) (recBytes { r with seq := R.seq + 1 })).1.pg (1 - pl)).length = 160 := pg_len _ (by omega)
    rcases h.odd.tear hlen hlen' ok3 h3 c4 with e | e
    · exact ⟨1 - pl, .inr (hnew e (i + 1))⟩
    · exact ⟨pl, .inl ⟨hpl, by rw [hsame]; exact h.row, h.ok, h.right, e⟩⟩
/-- the first record, on flash whose power stays -/
theorem first_save (n t : Nat) (h : 2 ≤ n) (h2 : n ≤ 64) (r : RecS) (ok : r.Ok) (hr : r.right = true) :
    ((FlS.new n).save r).2 = ({ r with seq := 1 }, 0) ∧ ((FlS.new n).save r).1.Live ∧ ((FlS.new n).save r).1.worn.length = n ∧ Two t 0 ((FlS.new n).save r).1 { r with seq := 1 } 0 ∧ ∀ j, 512 ≤ j → j < 256 * n → ((FlS.new n).save r).1.B.getD j 0 = 255 := by
  have hv : (FlS.new n).Live := FlS.Live.new n (by omega) h2
  have hL := new_load n h
  have hto : (FlS.new n).to = 0 := by unfold FlS.to; rw [hL]; rfl
  have hwn : (FlS.new n).worn.length = n := by simp [FlS.new]
  have hBn : (FlS.new n).B.length = n * 256 := by simp [FlS.new]
  have h255 : ∀ j, j < n * 256 → (FlS.new n).B.getD j 0 = 255 := fun j hj => by
    simp only [FlS.new, List.getD_eq_getElem?_getD]
    rw [List.getElem?_replicate, if_pos hj]
    rfl
  have h3 : ({ r with seq := 0 + 1 } : RecS).right = true := hr
  have ok3 : ({ r with seq := 0 + 1 } : RecS).Ok := ⟨show 0 + 1 < 4294967296 by omega, ok.floor, ok.bytes, ok.sum, ok.done, ok.init⟩
  have hb := recBytes_len { r with seq := 0 + 1 } (right_init h3)
  obtain ⟨w1, w2, w3, w4⟩ := live_write hv 0 _ hb (by omega)
  simp only [Nat.zero_mul, Nat.zero_add, Nat.zero_le, true_and, Nat.sub_zero] at w4
  have ww := w2.ok.pages
  have hsv : (FlS.new n).save r = (((FlS.new n).write 0 (recBytes { r with seq := 0 + 1 })).1, { r with seq := 1 }, 0) := by
    unfold FlS.save
    rw [hto, hL]
    rw [if_neg (by simp), if_neg (by decide), if_neg (by show ¬ _ = false; rw [show zeroS.seq = 0 from rfl, h3]; decide), if_neg (by show ¬ _ ≠ 0; rw [show zeroS.seq = 0 from rfl, w1]; decide)]
    rfl
  have hwn2 : ((FlS.new n).write 0 (recBytes { r with seq := 0 + 1 })).1.worn.length = n := by omega
  have hlen : 256 * 0 + 160 ≤ ((FlS.new n).write 0 (recBytes { r with seq := 0 + 1 })).1.B.length := by omega
  rw [hsv]
  refine ⟨rfl, w2, hwn2, ⟨by omega, pg_new 0 _ hb hlen fun j j1 j2 => ?_, ok3, h3, .open fun p p1 p2 => ?_⟩, fun j j1 j2 => ?_⟩
  · rw [w4 j (by omega), if_pos (by omega)]
    rfl
  · rw [pg_getD _ _ _ p2, w4 _ (by omega), if_neg (by omega), if_neg (by omega), h255 _ (by omega)]
  · rw [w4 j (by omega), if_neg (by omega), if_neg (by omega), h255 _ (by omega)]
end Go.Proofs.Ytjmgnfpcieofkaa

/- A round of saving: what is there behind it, once the power is there again. No Go function is spoken of. -/
namespace Go.Proofs.Ytjmgnfpcieofkaa
set_option linter.unusedVariables false
set_option linter.unusedSimpArgs false

/-- with power again -/
abbrev FlS.power (s : FlS) : FlS := { s with off := false, armed := false }
theorem FlS.Up.power {s : FlS} {T : Nat} (h : s.Up T) : s.power.Live := ⟨rfl, rfl, h.free, ⟨h.ok.pages, h.ok.most, h.ok.lf, h.ok.lt, h.ok.left, h.ok.tear⟩⟩
theorem FlS.Down.power {s : FlS} (h : s.Down) : s.power.Live := ⟨rfl, rfl, h.free, ⟨h.ok.pages, h.ok.most, h.ok.lf, h.ok.lt, h.ok.left, h.ok.tear⟩⟩
theorem FlS.Fit.power {s : FlS} {n : Nat} (h : s.Fit n) : s.power.Fit n := ⟨⟨h.ok.pages, h.ok.most, h.ok.lf, h.ok.lt, h.ok.left, h.ok.tear⟩, h.free, h.steps, h.worn⟩
theorem FlS.Live.up {s : FlS} (h : s.Live) (T : Nat) : s.Up T := ⟨h.off, h.free, h.ok, fun c => by rw [h.armed] at c; cases c⟩
/-- the power is to go -/
abbrev FlS.fail (s : FlS) (n t : Nat) : FlS := { s with armed := true, left := n, tear := t }
theorem FlS.Live.fail {s : FlS} (h : s.Live) (n t : Nat) (hn : n ≤ 9223372036854775807) (ht : t < 4294967296) : (s.fail n t).Up t := ⟨h.off, h.free, ⟨h.ok.pages, h.ok.most, h.ok.lf, h.ok.lt, hn, ht⟩, fun _ => rfl⟩
theorem FlS.Fit.fail {s : FlS} {m : Nat} (h : s.Fit m) (n t : Nat) (hn : n ≤ 9223372036854775807) (ht : t < 4294967296) : (s.fail n t).Fit m := ⟨⟨h.ok.pages, h.ok.most, h.ok.lf, h.ok.lt, hn, ht⟩, h.free, h.steps, h.worn⟩
theorem tearK_lt (t k : Nat) (h : t < 4294967296) : tearK t k < 4294967296 := by
  unfold tearK
  exact Nat.xor_lt_two_pow (n := 32) h (Nat.mod_lt _ (by decide))
theorem tear_eq (t k : Nat) (h : t < 4294967296) : bits .xor .u32 (t : Int) ((k : Int) * 2654435769 % 4294967296) = ((tearK t k : Nat) : Int) := by
  have e : ((k : Int) * 2654435769 % 4294967296) = ((k * 2654435769 % 4294967296 : Nat) : Int) := by
    rw [Int.natCast_emod, Int.natCast_mul]
    rfl
  rw [e, u32_xor_nat _ _ h (Nat.mod_lt _ (by decide))]
  rfl
/-- what is known of the flash between two rounds -/
structure Between (t : Nat) (k : Nat) (s : FlS) (R : RecS) : Prop where
  live : s.Live
  worn : s.worn.length = 2
  fit : s.Fit (k * 252 + 300)
  seq : R.seq ≤ k + 1
  two : ∃ pl, Two t k s R pl
theorem Between.ok {t k : Nat} {s : FlS} {R : RecS} (h : Between t k s R) : R.Ok := by
  obtain ⟨_, h⟩ := h.two
  exact h.ok
theorem Between.load {t k : Nat} {s : FlS} {R : RecS} (h : Between t k s R) (hk : k ≤ 25) : s.load.1 = R ∧ s.load.2.2 = 0 := by
  obtain ⟨_, h2⟩ := h.two
  have := h.live.ok.pages
  have := h.worn
  rw [h2.load hk h.live.off (by omega)]
  exact ⟨rfl, rfl⟩
/-- a round -/
theorem save_round {t k : Nat} {s : FlS} {R x : RecS} (hk : k < 12) (hu : s.Up (tearK t k)) (hw : s.worn.length = 2) (hfit : s.Fit (k * 252 + 300)) (hq : R.seq ≤ k + 1) (h2 : ∃ pl, Two t k s R pl) (ok : x.Ok) :
    (x.right = false ∧ (s.save x).2 = (zeroS, 1) ∧ Between t (k + 1) (s.save x).1.power R) ∨
    (x.right = true ∧ ((s.save x).2 = ({ x with seq := R.seq + 1 }, 0) ∧ Between t (k + 1) (s.save x).1.power { x with seq := R.seq + 1 } ∨
      (s.save x).2 = (zeroS, 5) ∧ Between t (k + 1) (s.save x).1.power R ∨ (s.save x).2 = (zeroS, 5) ∧ Between t (k + 1) (s.save x).1.power { x with seq := R.seq + 1 })) := by
  obtain ⟨pl, h2⟩ := h2
  have hpg := hu.ok.pages
  have hL := h2.load (by omega) hu.off (by omega)
  have hf := (hfit.save x).power
  have hf2 : (s.save x).1.power.Fit ((k + 1) * 252 + 300) := hf.mono (by omega)
  cases hr : x.right with
  | false =>
    left
    have hsv := save_wrong (s := s) (r := x) (.inl (by rw [hL])) (by rw [hL]; show R.seq ≠ _; omega) hr
    rw [hsv] at hf2 ⊢
    exact ⟨rfl, rfl, hu.power, hw, hf2, by omega, pl, (h2.mono (Nat.le_succ k)).same rfl rfl⟩
  | true =>
    right
    refine ⟨rfl, ?_⟩
    obtain ⟨⟨l1, l2, l3⟩, h | h⟩ := torn_save hu h2 (by omega) (by omega) x ok hr (by omega)
    · obtain ⟨e1, u1, _, pl2, t1⟩ := h
      exact .inl ⟨e1, u1.power, by rw [← hw, ← l2], hf2, by show R.seq + 1 ≤ _; omega, pl2, (t1.mono (Nat.le_succ k)).same rfl rfl⟩
    · obtain ⟨e1, u1, _, pl2, t1 | t1⟩ := h
      · exact .inr (.inl ⟨e1, u1.power, by rw [← hw, ← l2], hf2, by omega, pl2, t1.same rfl rfl⟩)
      · exact .inr (.inr ⟨e1, u1.power, by rw [← hw, ← l2], hf2, by show R.seq + 1 ≤ _; omega, pl2, t1.same rfl rfl⟩)
end Go.Proofs.Ytjmgnfpcieofkaa
