/- LAID TOGETHER: FlMath3, Keep1, Keep2. -/
import Derived.Test.YtjmgnfpcieofkaaGTorn
import Derived.Test.YtjmgnfpcieofkaaTr6
/- A keeper on flash whose power stays: what it remembers. No Go function is spoken of. -/
namespace Go.Proofs.Ytjmgnfpcieofkaa
set_option linter.unusedVariables false
set_option linter.unusedSimpArgs false

/-- a keeper's record is what its flash tells -/
structure KL (s : FlS) (R : RecS) : Prop where
  live : s.Live
  worn : 34 ≤ s.worn.length
  load : s.load.1 = R
  ok : R.Ok
  right : R.right = true
theorem KL.pages {s : FlS} {R : RecS} (h : KL s R) : s.B.length = 256 * s.worn.length := h.live.ok.pages
/-- what is told is in the first two pages -/
theorem load_same {s t : FlS} (hs : s.Live) (ht : t.Live) (hp : 2 ≤ s.worn.length) (hl : t.B.length = s.B.length) (h : ∀ j, j < 512 → t.B.getD j 0 = s.B.getD j 0) : t.load = s.load := by
  have h1 := hs.ok.pages
  have h2 := ht.ok.pages
  rw [load_live hs hp, load_live ht (by omega), best_two, best_two, pg_same 0 hl (by omega) (fun j _ _ => h j (by omega)), pg_same 1 hl (by omega) (fun j _ _ => h j (by omega))]
theorem KL.new (n : Nat) (h : 34 ≤ n) (h2 : n ≤ 64) : KL (FlS.new n) zeroS :=
  ⟨FlS.Live.new n (by omega) h2, by simp [FlS.new]; exact h, by rw [new_load n (by omega)], zeroS_ok, by decide⟩
/-- a record is remembered -/
theorem KL.rem {s : FlS} {R : RecS} (h : KL s R) (hq : R.seq + 1 < 4294967296) (phase : UInt8) (done : Nat) (init : List UInt8) (hr : (R.put phase done init).right = true) :
    ∃ t, kRem s R phase done init = (t, { R.put phase done init with seq := R.seq + 1 }, 0) ∧ KL t { R.put phase done init with seq := R.seq + 1 } ∧ t.load.2.2 = 0 ∧ t.B.length = s.B.length ∧ t.worn.length = s.worn.length ∧ ∀ j, 512 ≤ j → j < s.B.length → t.B.getD j 0 = s.B.getD j 0 := by
  have hrr := hr
  simp only [RecS.right, decide_eq_true_eq] at hrr
  have hd : done ≤ 4096 := hrr.2.1
  have hi : init.length ≤ 128 := hrr.2.2.2.1
  have ok' : (R.put phase done init).Ok := put_ok h.ok phase done (by omega) init (by omega)
  have hw := h.worn
  obtain ⟨a1, a2, a3, a4, a5⟩ := fl_save h.live (by omega) (R.put phase done init) ok' hr (by rw [h.load]; exact hq)
  rw [h.load] at a1 a5
  have hpg := h.pages
  have hlow : ∀ j, 512 ≤ j → j < s.B.length → (s.save (R.put phase done init)).1.B.getD j 0 = s.B.getD j 0 := by
    intro j j1 j2
    have hto := to_le s
    have hb : (recBytes { (R.put phase done init) with seq := s.load.1.seq + 1 }).length = 160 := recBytes_len _ hi
    obtain ⟨w1, w2, w3, w4⟩ := live_write h.live s.to _ hb (by omega)
    have hL := load_live h.live (by omega : 2 ≤ s.worn.length)
    have e15 : s.load.2.2 = 0 ∨ s.load.2.2 = 15 := by rw [hL]; exact best_err s 2
    have h3 : ({ (R.put phase done init) with seq := s.load.1.seq + 1 } : RecS).right = true := hr
    have hsq : s.load.1.seq + 1 < 4294967296 := by rw [h.load]; exact hq
    have hsv : s.save (R.put phase done init) = ((s.write s.to (recBytes { (R.put phase done init) with seq := s.load.1.seq + 1 })).1, { (R.put phase done init) with seq := s.load.1.seq + 1 }, 0) := by
      unfold FlS.save
      rw [if_neg (by omega), if_neg (by omega), if_neg (by simp [h3]), if_neg (by simp [w1])]
    rw [hsv]
    show (s.write s.to _).1.B.getD j 0 = _
    rw [w4 j j2, if_neg (by omega), if_neg (by omega)]
  refine ⟨(s.save (R.put phase done init)).1, ?_, ⟨a2, by omega, by rw [a5], ⟨hq, ok'.floor, ok'.bytes, ok'.sum, ok'.done, ok'.init⟩, hr⟩, by rw [a5], a3, a4, hlow⟩
  unfold kRem
  rw [a1]
  simp
/-- pages of the keeper's bank are erased -/
theorem KL.clr {s : FlS} {R : RecS} (h : KL s R) (a k : Nat) (hk : a + k ≤ 16) :
    (s.clr 18 a k).2 = 0 ∧ KL (s.clr 18 a k).1 R ∧ (s.clr 18 a k).1.load = s.load ∧ (s.clr 18 a k).1.B.length = s.B.length ∧ ∀ j, j < s.B.length → (s.clr 18 a k).1.B.getD j 0 = if (18 + a) * 256 ≤ j ∧ j < (18 + a + k) * 256 then 255 else s.B.getD j 0 := by
  have hw := h.worn
  have hpg := h.pages
  obtain ⟨c1, c2, c3, c4⟩ := live_clr k h.live 18 a (by omega)
  have hL : (s.clr 18 a k).1.load = s.load := load_same h.live c2 (by omega) c3 fun j hj => by
    rw [c4 j (by omega), if_neg (by omega)]
  have := c2.ok.pages
  exact ⟨c1, ⟨c2, by omega, by rw [hL]; exact h.load, h.ok, h.right⟩, hL, c3, c4⟩
/-- bytes are put on what is erased -/
theorem KL.prog {s : FlS} {R : RecS} (h : KL s R) (a : Nat) (ha : 512 ≤ a) (lb : List UInt8) (h4 : lb.length % 4 = 0) (hl : a + lb.length ≤ s.B.length) (he : ∀ j, j < lb.length → s.B.getD (a + j) 0 = 255) :
    (s.prog a lb).2 = 0 ∧ KL (s.prog a lb).1 R ∧ (s.prog a lb).1.load = s.load ∧ (s.prog a lb).1.B.length = s.B.length ∧ ∀ j, j < s.B.length → (s.prog a lb).1.B.getD j 0 = if a ≤ j ∧ j < a + lb.length then lb.getD (j - a) 0 else s.B.getD j 0 := by
  have hw := h.worn
  have hpg := h.pages
  obtain ⟨c1, c2, c3⟩ := live_prog h.live a lb h4 hl fun j hj => by rw [he j hj]; exact and_ones8 _
  have hB := FlS.prog_length s a lb
  have hL : (s.prog a lb).1.load = s.load := load_same h.live c2 (by omega) hB fun j hj => by
    rw [c3 j (by omega), if_neg (by omega)]
  have := c2.ok.pages
  exact ⟨c1, ⟨c2, by omega, by rw [hL]; exact h.load, h.ok, h.right⟩, hL, hB, c3⟩
theorem right_of {s : RecS} (h1 : s.bytes ≤ 4096) (h2 : s.done ≤ 4096) (h3 : s.phase.toNat ≤ 2) (h4 : s.init.length ≤ 128) (h5 : s.phase.toNat ≠ 0 ∨ s.done = 0 ∧ s.init.length = 0) : s.right = true := decide_eq_true ⟨h1, h2, h3, h4, h5⟩
/-- a transfer is begun -/
theorem KL.start {s : FlS} {R : RecS} (h : KL s R) (hq : R.seq + 2 < 4294967296) (init : List UInt8) (hi : init.length ≤ 128) :
    ∃ t, kStart s R init = (t, { R.put 1 0 init with seq := R.seq + 2 }, 0) ∧ KL t { R.put 1 0 init with seq := R.seq + 2 } ∧ t.load.2.2 = 0 ∧ t.B.length = s.B.length ∧ t.worn.length = s.worn.length ∧ (∀ j, 4608 ≤ j → j < 8704 → t.B.getD j 0 = 255) := by
  have hb : R.bytes ≤ 4096 := by
    have := h.right
    simp only [RecS.right, decide_eq_true_eq] at this
    exact this.1
  have hw := h.worn
  have hpg := h.pages
  have r0 : (R.put 0 0 []).right = true := right_of hb (Nat.zero_le _) (show (0 : UInt8).toNat ≤ 2 by decide) (Nat.zero_le _) (.inr ⟨rfl, rfl⟩)
  obtain ⟨t1, e1, k1, _, l1, w1, _⟩ := h.rem (by omega) 0 0 [] r0
  obtain ⟨c1, k2, _, l2, b2⟩ := k1.clr 0 16 (by omega)
  have r1 : (RecS.put { R.put 0 0 [] with seq := R.seq + 1 } 1 0 init).right = true := right_of hb (Nat.zero_le _) (show (1 : UInt8).toNat ≤ 2 by decide) hi (.inl (show (1 : UInt8).toNat ≠ 0 by decide))
  obtain ⟨t3, e3, k3, o3, l3, w3, b3⟩ := k2.rem (show R.seq + 1 + 1 < 4294967296 by omega) 1 0 init r1
  have hst : kStart s R init = (t3, { R.put 1 0 init with seq := R.seq + 2 }, 0) := by
    unfold kStart
    rw [e1]
    rw [if_neg (by simp), if_neg (by simp [c1])]
    exact e3
  have ww := k2.pages
  have w0 := k1.pages
  refine ⟨t3, hst, k3, o3, by omega, by omega, fun j j1 j2 => ?_⟩
  rw [b3 j (by omega) (by omega), b2 j (by omega), if_pos (by omega)]
/-- bytes are put -/
theorem KL.put {s : FlS} {R : RecS} (h : KL s R) (hq : R.seq + 1 < 4294967296) (hph : R.phase = 1) (b : List UInt8) (hd : R.done % 256 = 0) (hl : R.done + b.length ≤ 4096) :
    ∃ t, kPut s R b = (t, { R.put 1 (R.done + b.length) R.init with seq := R.seq + 1 }, 0) ∧ KL t { R.put 1 (R.done + b.length) R.init with seq := R.seq + 1 } ∧ t.load.2.2 = 0 ∧ t.B.length = s.B.length ∧ t.worn.length = s.worn.length ∧
      (∀ j, j < b.length → t.B.getD (4608 + R.done + j) 0 = b.getD j 0) ∧ ∀ j, 512 ≤ j → j < 4608 + R.done → t.B.getD j 0 = s.B.getD j 0 := by
  have hrr := h.right
  simp only [RecS.right, decide_eq_true_eq] at hrr
  have hw := h.worn
  have hpg := h.pages
  have hP := padW_len b
  obtain ⟨c1, k2, _, l2, b2⟩ := h.clr (R.done / 256) ((R.done + b.length + 255) / 256 - R.done / 256) (by omega)
  obtain ⟨d1, k3, _, l3, b3⟩ := k2.prog (4608 + R.done) (by omega) (padW b) (by omega) (by omega) fun j hj => by
    rw [b2 _ (by omega), if_pos (by omega)]
  have r1 : (R.put 1 (R.done + b.length) R.init).right = true := right_of hrr.1 hl (show (1 : UInt8).toNat ≤ 2 by decide) hrr.2.2.2.1 (.inl (show (1 : UInt8).toNat ≠ 0 by decide))
  obtain ⟨t4, e4, k4, o4, l4, w4, b4⟩ := k3.rem hq 1 (R.done + b.length) R.init r1
  have hst : kPut s R b = (t4, { R.put 1 (R.done + b.length) R.init with seq := R.seq + 1 }, 0) := by
    unfold kPut
    rw [if_neg (by simp [hph]), if_neg (by omega), if_neg (by simp [c1]), if_neg (by simp [d1])]
    exact e4
  have w2 := k2.pages
  have w3 := k3.pages
  refine ⟨t4, hst, k4, o4, by omega, by omega, fun j hj => ?_, fun j j1 j2 => ?_⟩
  · rw [b4 _ (by omega) (by omega), b3 _ (by omega), if_pos (by omega), show 4608 + R.done + j - (4608 + R.done) = j by omega]
    unfold padW
    rw [List.getD_eq_getElem?_getD, List.getD_eq_getElem?_getD, List.getElem?_append_left hj]
  · rw [b4 _ (by omega) (by omega), b3 _ (by omega), if_neg (by omega), b2 _ (by omega), if_neg (by omega)]
end Go.Proofs.Ytjmgnfpcieofkaa

/- Pieces are kept, and the power may go anywhere: what is kept stays. No Go function is spoken of. -/
namespace Go.Proofs.Ytjmgnfpcieofkaa
set_option linter.unusedVariables false
set_option linter.unusedSimpArgs false

theorem clr_next {first a A : Nat} (hA : (first + a) * 256 = A) : (first + (a + 1)) * 256 = A + 256 := by
  obtain ⟨b, hb⟩ : ∃ b, b = first + a := ⟨_, rfl⟩
  rw [← hb] at hA
  rw [show first + (a + 1) = b + 1 by omega, Nat.add_mul, hA]
theorem clr_len {first a k A n : Nat} (hA : (first + a) * 256 = A) (hk : first + a + (k + 1) ≤ n) : A + (k + 1) * 256 ≤ 256 * n := by
  obtain ⟨b, hb⟩ : ∃ b, b = first + a := ⟨_, rfl⟩
  rw [← hb] at hA hk
  omega
/-- pages are erased, or the power has gone -/
theorem up_clr {T : Nat} (k : Nat) : ∀ {s : FlS} (h : s.Up T) (first a A : Nat) (hA : (first + a) * 256 = A), first + a + k ≤ s.worn.length →
    ((s.clr first a k).1.B.length = s.B.length ∧ (s.clr first a k).1.worn.length = s.worn.length ∧ ∀ j, j < A → (s.clr first a k).1.B.getD j 0 = s.B.getD j 0) ∧
    (((s.clr first a k).2 = 0 ∧ (s.clr first a k).1.Up T ∧ ((s.clr first a k).1.armed = true → s.armed = true) ∧ ∀ j, A ≤ j → j < A + k * 256 → (s.clr first a k).1.B.getD j 0 = 255) ∨
     ((s.clr first a k).2 = 5 ∧ (s.clr first a k).1.Down ∧ s.armed = true)) := by
  induction k with
  | zero =>
    intro s h first a A hA _
    exact ⟨⟨rfl, rfl, fun _ _ => rfl⟩, .inl ⟨rfl, h, fun c => c, fun j j1 j2 => by omega⟩⟩
  | succ k ih =>
    intro s h first a A hA hk
    have hB := FlS.era_length s (first + a)
    have hw := FlS.era_wornlen s (first + a)
    have hpg := h.ok.pages
    have hA2 : (first + (a + 1)) * 256 = A + 256 := clr_next hA
    have hkl : A + (k + 1) * 256 ≤ s.B.length := by
      rw [hpg]
      exact clr_len hA hk
    have hAl : A + 256 ≤ s.B.length := by
      clear hA hA2
      omega
    have hfa : first + a < s.worn.length := by omega
    have hk2 : first + (a + 1) + k ≤ s.worn.length := by omega
    have hA1 := hA
    clear hk
    obtain ⟨K, hK⟩ : ∃ K, K = k * 256 := ⟨_, rfl⟩
    have hK1 : (k + 1) * 256 = K + 256 := by rw [Nat.add_mul, hK]
    rw [hK1] at hkl ⊢
    unfold FlS.clr
    rcases up_era h (first + a) A hA1 hfa with ⟨h1, h2, h3, h4⟩ | ⟨h1, h2, h3, h4⟩
    · rw [if_pos h1]
      obtain ⟨⟨g1, g2, g3⟩, g⟩ := ih h2 first (a + 1) (A + 256) hA2 (by rw [hw]; exact hk2)
      rw [← hK] at g
      clear hA hA1 hA2 hK hK1
      refine ⟨⟨by rw [g1, hB], by rw [g2, hw], fun j hj => ?_⟩, ?_⟩
      · rw [g3 j (by omega), h4 j (by omega), if_neg (by omega)]
      · rcases g with ⟨e1, e2, e3, e4⟩ | ⟨e1, e2, e3⟩
        · refine .inl ⟨e1, e2, fun c => h3 (e3 c), fun j j1 j2 => ?_⟩
          by_cases c : j < A + 256
          · rw [g3 j c, h4 j (by omega), if_pos ⟨j1, c⟩]
          · exact e4 j (Nat.le_of_not_lt c) (by rw [Nat.add_assoc, Nat.add_comm 256 K]; exact j2)
        · exact .inr ⟨e1, e2, h3 e3⟩
    · rw [if_neg (by rw [h1]; decide)]
      refine ⟨⟨hB, hw, fun j hj => ?_⟩, .inr ⟨h1, h2, h3⟩⟩
      rw [h4 j (by omega), if_neg (by omega)]
theorem Two.low {t i : Nat} {s s' : FlS} {R : RecS} {pl : Nat} (h : Two t i s R pl) (hl : s'.B.length = s.B.length) (hB : 512 ≤ s.B.length) (hs : ∀ j, j < 512 → s'.B.getD j 0 = s.B.getD j 0) : Two t i s' R pl :=
  h.same (pg_same 0 hl (by omega) fun j _ _ => hs j (by omega)) (pg_same 1 hl (by omega) fun j _ _ => hs j (by omega))
/-- a piece is kept, or the power has gone -/
theorem torn_put {t i : Nat} {s : FlS} {R : RecS} {pl : Nat} (hu : s.Up (tearK t i)) (h : Two t i s R pl) (hi : i ≤ 25) (hw : 34 ≤ s.worn.length) (hph : R.phase = 1) (hd : R.done % 256 = 0) (b : List UInt8) (hl : R.done + b.length ≤ 4096) (hq : R.seq + 1 < 4294967296) :
    ((kPut s R b).1.B.length = s.B.length ∧ (kPut s R b).1.worn.length = s.worn.length ∧ ∀ j, 512 ≤ j → j < 4608 + R.done → (kPut s R b).1.B.getD j 0 = s.B.getD j 0) ∧
    (((kPut s R b).2.2 = 0 ∧ (kPut s R b).1.Up (tearK t i) ∧ ((kPut s R b).1.armed = true → s.armed = true) ∧ (∃ pl', Two t i (kPut s R b).1 { R.put 1 (R.done + b.length) R.init with seq := R.seq + 1 } pl') ∧ ∀ j, j < b.length → (kPut s R b).1.B.getD (4608 + R.done + j) 0 = b.getD j 0) ∨
     ((kPut s R b).2.2 = 5 ∧ (kPut s R b).1.Down ∧ s.armed = true ∧ ((∃ pl', Two t (i + 1) (kPut s R b).1 R pl') ∨
       ((∃ pl', Two t (i + 1) (kPut s R b).1 { R.put 1 (R.done + b.length) R.init with seq := R.seq + 1 } pl') ∧ ∀ j, j < b.length → (kPut s R b).1.B.getD (4608 + R.done + j) 0 = b.getD j 0)))) := by
  have hrr := h.right
  simp only [RecS.right, decide_eq_true_eq] at hrr
  have hpg := hu.ok.pages
  have hP := padW_len b
  obtain ⟨k, hk⟩ : ∃ k, k = (R.done + b.length + 255) / 256 - R.done / 256 := ⟨_, rfl⟩
  obtain ⟨⟨c1, c2, c3⟩, hc⟩ := up_clr k hu 18 (R.done / 256) (4608 + R.done) (by omega) (by omega)
  have hkb : 4608 + R.done + b.length ≤ 4608 + R.done + k * 256 := by omega
  have hput : ∀ X, (s.clr 18 (R.done / 256) k) = X → kPut s R b = if X.2 ≠ 0 then (X.1, R, X.2) else if (X.1.prog (4608 + R.done) (padW b)).2 ≠ 0 then ((X.1.prog (4608 + R.done) (padW b)).1, R, (X.1.prog (4608 + R.done) (padW b)).2) else kRem (X.1.prog (4608 + R.done) (padW b)).1 R 1 (R.done + b.length) R.init := by
    intro X hX
    subst hX
    unfold kPut
    rw [if_neg (by simp [hph]), if_neg (by omega), ← hk]
  have hput := hput _ rfl
  generalize s.clr 18 (R.done / 256) k = X at *
  obtain ⟨s1, e1⟩ := X
  dsimp only at *
  rcases hc with ⟨rfl, u1, a1, z1⟩ | ⟨rfl, d1, a1⟩
  · have hpl : (padW b).length % 4 = 0 := by omega
    have hpk : 4608 + R.done + (padW b).length ≤ 4608 + R.done + k * 256 := by omega
    have hk34 : 4608 + R.done + k * 256 ≤ s1.B.length := by omega
    have t1 : Two t i s1 R pl := h.low c1 (by omega) fun j hj => c3 j (by omega)
    rw [if_neg (by simp)] at hput
    have pl1 := FlS.prog_length s1 (4608 + R.done) (padW b)
    have pw1 := congrArg List.length (FlS.prog_worn s1 (4608 + R.done) (padW b))
    have hp := up_prog u1 (4608 + R.done) (padW b) hpl (by omega) (fun j hj => by rw [z1 _ (by omega) (by omega)]; exact and_ones8 _)
    generalize s1.prog (4608 + R.done) (padW b) = Y at *
    obtain ⟨s2, e2⟩ := Y
    dsimp only at *
    rcases hp with ⟨rfl, u2, a2, z2⟩ | ⟨rfl, d2, a2, n, hn, z2⟩
    · rw [if_neg (by simp)] at hput
      have low2 : ∀ j, j < 4608 + R.done → s2.B.getD j 0 = s.B.getD j 0 := fun j hj => by rw [z2 j (by omega), if_neg (by omega), c3 j hj]
      have t2 : Two t i s2 R pl := h.low (by omega) (by omega) fun j hj => low2 j (by omega)
      have hb2 : ∀ j, j < b.length → s2.B.getD (4608 + R.done + j) 0 = b.getD j 0 := fun j hj => by
        rw [z2 _ (by omega), if_pos (by omega), show 4608 + R.done + j - (4608 + R.done) = j by omega]
        unfold padW
        rw [List.getD_eq_getElem?_getD, List.getD_eq_getElem?_getD, List.getElem?_append_left hj]
      have r1 : (R.put 1 (R.done + b.length) R.init).right = true := right_of hrr.1 hl (show (1 : UInt8).toNat ≤ 2 by decide) hrr.2.2.2.1 (.inl (show (1 : UInt8).toNat ≠ 0 by decide))
      have ok1 : (R.put 1 (R.done + b.length) R.init).Ok := put_ok h.ok 1 _ (by omega) _ (by omega)
      obtain ⟨⟨l1, l2, l3⟩, hs⟩ := torn_save u2 t2 hi (by omega) (R.put 1 (R.done + b.length) R.init) ok1 r1 hq
      have e0 : kPut s R b = ((s2.save (R.put 1 (R.done + b.length) R.init)).1, (if (s2.save (R.put 1 (R.done + b.length) R.init)).2.2 = 0 then (s2.save (R.put 1 (R.done + b.length) R.init)).2.1 else R), (s2.save (R.put 1 (R.done + b.length) R.init)).2.2) := hput
      rw [e0]
      generalize s2.save (R.put 1 (R.done + b.length) R.init) = Z at *
      obtain ⟨s3, r3, e3⟩ := Z
      dsimp only at *
      refine ⟨⟨by omega, by omega, fun j j1 j2 => ?_⟩, ?_⟩
      · rw [l3 j j1 (by omega), low2 j j2]
      · have hb3 : ∀ j, j < b.length → s3.B.getD (4608 + R.done + j) 0 = b.getD j 0 := fun j hj => by rw [l3 _ (by omega) (by omega), hb2 j hj]
        rcases hs with ⟨g1, g2, g3, g4⟩ | ⟨g1, g2, g3, pl', g4 | g4⟩
        · simp only [Prod.mk.injEq] at g1
          exact .inl ⟨g1.2, g2, fun c => a1 (a2 (g3 c)), g4, hb3⟩
        · simp only [Prod.mk.injEq] at g1
          exact .inr ⟨g1.2, g2, a1 (a2 g3), .inl ⟨pl', g4⟩⟩
        · simp only [Prod.mk.injEq] at g1
          exact .inr ⟨g1.2, g2, a1 (a2 g3), .inr ⟨⟨pl', g4⟩, hb3⟩⟩
    · rw [if_pos (by simp)] at hput
      rw [hput]
      have low2 : ∀ j, j < 4608 + R.done → s2.B.getD j 0 = s.B.getD j 0 := fun j hj => by
        rw [z2 j (by omega)]
        unfold tornW
        rw [if_neg (by omega), if_neg (by omega), c3 j hj]
      refine ⟨⟨by show s2.B.length = _; omega, by show s2.worn.length = _; omega, fun j j1 j2 => low2 j j2⟩, .inr ⟨rfl, d2, a1 a2, .inl ⟨pl, ?_⟩⟩⟩
      exact (h.mono (Nat.le_succ i)).low (by show s2.B.length = _; omega) (by omega) fun j hj => low2 j (by omega)
  · rw [if_pos (by simp)] at hput
    rw [hput]
    exact ⟨⟨c1, c2, fun j j1 j2 => c3 j j2⟩, .inr ⟨rfl, d1, a1, .inl ⟨pl, (h.mono (Nat.le_succ i)).low c1 (by omega) fun j hj => c3 j (by omega)⟩⟩⟩
theorem kPut_fit {s : FlS} {n : Nat} (h : s.Fit n) (R : RecS) (b : List UInt8) (hl : R.done + b.length ≤ 4096) : (kPut s R b).1.Fit (n + 3000) := by
  have hP := padW_len b
  have h1 := clr_fit (first := 18) ((R.done + b.length + 255) / 256 - R.done / 256) (R.done / 256) _ _ h
  have h2 := h1.prog (4608 + R.done) (padW b)
  have h3 := kRem_fit h2 R 1 (R.done + b.length) R.init
  unfold kPut
  split
  · exact h.mono (by omega)
  · split
    · exact h.mono (by omega)
    · split
      · exact h1.mono (by omega)
      · split
        · exact h2.mono (by omega)
        · exact h3.mono (by omega)
end Go.Proofs.Ytjmgnfpcieofkaa

/- An image is kept piece by piece, the power going anywhere: a round, and the beginning. No Go function is spoken of. -/
namespace Go.Proofs.Ytjmgnfpcieofkaa
set_option linter.unusedVariables false
set_option linter.unusedSimpArgs false

def packetB : List UInt8 := [112, 97, 99, 107, 101, 116]
/-- what is known between two rounds -/
structure Kept (t M : Nat) (image : List UInt8) (i : Nat) (s : FlS) (R : RecS) : Prop where
  live : s.Live
  worn : s.worn.length = 34
  fit : s.Fit (i * 3000 + 3000)
  seq : R.seq ≤ i + 3
  two : ∃ pl, Two t (min i M) s R pl
  phase : R.phase = 1
  init : R.init = packetB
  le : R.done ≤ image.length
  step : R.done % 1024 = 0 ∨ R.done = image.length
  count : i ≤ 20 + (R.done + 1023) / 1024
  bytes : ∀ j, j < R.done → s.B.getD (4608 + j) 0 = image.getD j 0
theorem Kept.ok {t M i : Nat} {image : List UInt8} {s : FlS} {R : RecS} (h : Kept t M image i s R) : R.Ok := by
  obtain ⟨_, h⟩ := h.two
  exact h.ok
theorem piece_getD (image : List UInt8) (d n j : Nat) (hj : j < n) (hn : d + n ≤ image.length) : ((image.drop d).take n).getD j 0 = image.getD (d + j) 0 := by
  rw [List.getD_eq_getElem?_getD, List.getD_eq_getElem?_getD, List.getElem?_take, if_pos hj, List.getElem?_drop]
/-- a round -/
theorem keep_round {t M i : Nat} {image : List UInt8} {s s1 : FlS} {R : RecS} (hM : M ≤ 20) (hlen : image.length ≤ 4096) (h : Kept t M image i s R) (hd : R.done < image.length) (hu : s1.Up (tearK t (min i M))) (hB : s1.B = s.B) (hwn : s1.worn = s.worn)
    (hfit : s1.Fit (i * 3000 + 3000)) (harm : s1.armed = true → i < M) (b : List UInt8) (n : Nat) (hn : n = min (R.done + 1024) image.length - R.done) (hb : b = (image.drop R.done).take n) :
    b.length = n ∧ ∃ G, Kept t M image (i + 1) (kPut s1 R b).1.power G ∧ (kPut s1 R b).1.power.load.1 = G ∧ (kPut s1 R b).1.power.kErr = 0 ∧
      (((kPut s1 R b).2.2 = 0 ∧ G.done = R.done + n) ∨ ((kPut s1 R b).2.2 = 5 ∧ (G.done = R.done ∨ G.done = R.done + n))) := by
  have hbl : b.length = n := by rw [hb, List.length_take, List.length_drop]; omega
  have hd1 : R.done % 1024 = 0 := by rcases h.step with c | c <;> omega
  have hcnt := h.count
  have hi24 : i ≤ 23 := by omega
  have hsq := h.seq
  obtain ⟨pl, h2⟩ := h.two
  have hpg := h.live.ok.pages
  have hw := h.worn
  have h2' : Two t (min i M) s1 R pl := by
    refine h2.same ?_ ?_ <;> (unfold FlS.pg; rw [hB])
  have hmn : min i M ≤ 25 := by omega
  obtain ⟨⟨l1, l2, l3⟩, hc⟩ := torn_put hu h2' hmn (by rw [hwn]; omega) h.phase (by omega) b (by omega) (by omega)
  rw [hbl] at hc
  have hf := (kPut_fit hfit R b (by omega)).power
  have hlo : ∀ j, j < R.done → (kPut s1 R b).1.B.getD (4608 + j) 0 = image.getD j 0 := fun j hj => by
    rw [l3 _ (by omega) (by omega), hB]
    exact h.bytes j hj
  have hhi : (∀ j, j < n → (kPut s1 R b).1.B.getD (4608 + R.done + j) 0 = b.getD j 0) → ∀ j, j < R.done + n → (kPut s1 R b).1.B.getD (4608 + j) 0 = image.getD j 0 := fun hz j hj => by
    by_cases c : j < R.done
    · exact hlo j c
    · have := hz (j - R.done) (by omega)
      rw [show 4608 + R.done + (j - R.done) = 4608 + j by omega] at this
      rw [this, hb, piece_getD _ _ _ _ (by omega) (by omega), show R.done + (j - R.done) = j by omega]
  rw [hB] at l1
  rw [hwn] at l2
  generalize kPut s1 R b = X at *
  obtain ⟨s2, R2, e2⟩ := X
  dsimp only at *
  have hfin : ∀ G : RecS, ∀ pl', s2.power.Live → Two t (min (i + 1) M) s2 G pl' → s2.power.load.1 = G ∧ s2.power.kErr = 0 := fun G pl' hv h2 => by
    have hpw := hv.ok.pages
    have hL : s2.power.load = (G, pl', 0) := (h2.same (s' := s2.power) rfl rfl).load (by omega) rfl (by show 512 ≤ s2.B.length; omega)
    refine ⟨by rw [hL], ?_⟩
    unfold FlS.kErr
    rw [if_neg (by show ¬ s2.B.length < 8704; omega), hL, if_neg (by simp)]
  have hw2 : s2.power.worn.length = 34 := by show s2.worn.length = 34; omega
  have hfit2 : s2.power.Fit ((i + 1) * 3000 + 3000) := hf.mono (by omega)
  refine ⟨hbl, ?_⟩
  rcases hc with ⟨rfl, u2, _, ⟨pl', t2⟩, hz⟩ | ⟨rfl, d2, ha, ⟨pl', t2⟩ | ⟨⟨pl', t2⟩, hz⟩⟩
  · have t3 := t2.mono (show min i M ≤ min (i + 1) M by omega)
    exact ⟨_, ⟨u2.power, hw2, hfit2, by show R.seq + 1 ≤ _; omega, ⟨pl', t3.same rfl rfl⟩, rfl, h.init, by show R.done + n ≤ _; omega, by show (R.done + n) % 1024 = 0 ∨ R.done + n = _; omega, by show i + 1 ≤ 20 + (R.done + n + 1023) / 1024; omega, fun j hj => hhi hz j hj⟩,
      (hfin _ _ u2.power t3).1, (hfin _ _ u2.power t3).2, .inl ⟨rfl, rfl⟩⟩
  · have hiM := harm ha
    have t3 := t2.mono (show min i M + 1 ≤ min (i + 1) M by omega)
    exact ⟨R, ⟨d2.power, hw2, hfit2, by omega, ⟨pl', t3.same rfl rfl⟩, h.phase, h.init, h.le, h.step, by omega, hlo⟩, (hfin _ _ d2.power t3).1, (hfin _ _ d2.power t3).2, .inr ⟨rfl, .inl rfl⟩⟩
  · have hiM := harm ha
    have t3 := t2.mono (show min i M + 1 ≤ min (i + 1) M by omega)
    exact ⟨_, ⟨d2.power, hw2, hfit2, by show R.seq + 1 ≤ _; omega, ⟨pl', t3.same rfl rfl⟩, rfl, h.init, by show R.done + n ≤ _; omega, by show (R.done + n) % 1024 = 0 ∨ R.done + n = _; omega, by show i + 1 ≤ 20 + (R.done + n + 1023) / 1024; omega, fun j hj => hhi hz j hj⟩,
      (hfin _ _ d2.power t3).1, (hfin _ _ d2.power t3).2, .inr ⟨rfl, .inr rfl⟩⟩
/-- the beginning -/
theorem keep_start (t M : Nat) (image : List UInt8) : ∃ s1 R1, kStart (FlS.new 34) zeroS packetB = (s1, R1, 0) ∧ Kept t M image 0 s1 R1 := by
  obtain ⟨f1, f2, f3, f4, _⟩ := first_save 34 t (by omega) (by omega) (zeroS.put 0 0 []) (put_ok zeroS_ok 0 0 (by decide) [] (by decide)) (by decide)
  have ff := (FlS.Fit.new 34 (by omega) (by omega)).save (zeroS.put 0 0 [])
  have hr1 : kRem (FlS.new 34) zeroS 0 0 [] = (((FlS.new 34).save (zeroS.put 0 0 [])).1, { zeroS.put 0 0 [] with seq := 1 }, 0) := by
    unfold kRem
    rw [f1]
    rfl
  generalize ((FlS.new 34).save (zeroS.put 0 0 [])).1 = s1 at *
  have hun : ∀ {s : FlS} {T : Nat}, s.Live → s.Up T := fun h => h.up _
  obtain ⟨⟨c1, c2, c3⟩, hc⟩ := up_clr 16 (f2.up (tearK t 0)) 18 0 4608 rfl (by omega)
  have fc := clr_fit (first := 18) 16 0 _ _ ff
  rcases hc with ⟨e1, u1, a1, _⟩ | ⟨_, _, a1⟩
  · have hpg := f2.ok.pages
    have t1 := f4.low c1 (by omega) fun j hj => c3 j (by omega)
    have r1 : (RecS.put { zeroS.put 0 0 [] with seq := 1 } 1 0 packetB).right = true := by decide
    obtain ⟨_, hs⟩ := torn_save u1 t1 (by omega) (by omega) (RecS.put { zeroS.put 0 0 [] with seq := 1 } 1 0 packetB) (put_ok (t1.ok) 1 0 (by decide) packetB (by decide)) r1 (by decide)
    have fs := fc.save (RecS.put { zeroS.put 0 0 [] with seq := 1 } 1 0 packetB)
    have hst : kStart (FlS.new 34) zeroS packetB = kRem (s1.clr 18 0 16).1 { zeroS.put 0 0 [] with seq := 1 } 1 0 packetB := by
      unfold kStart
      rw [hr1, if_neg (by simp), if_neg (by simp [e1])]
    have harm : (s1.clr 18 0 16).1.armed = false := by
      cases hq : (s1.clr 18 0 16).1.armed with
      | false => rfl
      | true => have := a1 hq; rw [f2.armed] at this; cases this
    have hws := FlS.save_wornlen (s1.clr 18 0 16).1 (RecS.put { zeroS.put 0 0 [] with seq := 1 } 1 0 packetB)
    rcases hs with ⟨g1, g2, g3, pl, g4⟩ | ⟨_, _, g3, _⟩
    · have hk : kRem (s1.clr 18 0 16).1 { zeroS.put 0 0 [] with seq := 1 } 1 0 packetB = (((s1.clr 18 0 16).1.save (RecS.put { zeroS.put 0 0 [] with seq := 1 } 1 0 packetB)).1, { RecS.put { zeroS.put 0 0 [] with seq := 1 } 1 0 packetB with seq := 1 + 1 }, 0) := by
        unfold kRem
        rw [g1]
        rfl
      rw [hst, hk]
      generalize (s1.clr 18 0 16).1.save (RecS.put { zeroS.put 0 0 [] with seq := 1 } 1 0 packetB) = Z at *
      obtain ⟨s3, r3, e3⟩ := Z
      dsimp only at *
      have ha3 : s3.armed = false := by
        cases hq : s3.armed with
        | false => rfl
        | true => have := g3 hq; rw [harm] at this; cases this
      refine ⟨_, _, rfl, ⟨⟨g2.off, ha3, g2.free, g2.ok⟩, by omega, fs.mono (by omega), by decide, ⟨pl, g4.mono (Nat.zero_le _)⟩, rfl, rfl, Nat.zero_le _, .inl rfl, Nat.zero_le _, fun j hj => ?_⟩⟩
      exact absurd hj (Nat.not_lt_zero _)
    · rw [harm] at g3; cases g3
  · rw [f2.armed] at a1; cases a1
end Go.Proofs.Ytjmgnfpcieofkaa
