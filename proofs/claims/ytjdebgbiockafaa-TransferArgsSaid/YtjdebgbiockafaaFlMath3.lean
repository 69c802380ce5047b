/- A keeper on flash whose power stays: what it remembers. No Go function is spoken of. -/
import Derived.Test.YtjdebgbiockafaaFlMath2
import Derived.Test.YtjdebgbiockafaaTr6
namespace Go.Proofs.Ytjdebgbiockafaa
set_option linter.unusedVariables false
set_option linter.unusedSimpArgs false

/-- a keeper's record is what its flash tells -/
structure KL (s : FlS) (R : RecS) : Prop where
  live : s.Live
  worn : 34 ≤ s.worn.length
  load : s.load.1 = R
  ok : R.Ok
  right : R.right = true
theorem KL.pages {s : FlS} {R : RecS} (h : KL s R) : s.B.length = 256 * s.worn.length := h.live.ok.pages
/-- what is told is in the first two pages -/
theorem load_same {s t : FlS} (hs : s.Live) (ht : t.Live) (hp : 2 ≤ s.worn.length) (hl : t.B.length = s.B.length) (h : ∀ j, j < 512 → t.B.getD j 0 = s.B.getD j 0) : t.load = s.load := by
  have h1 := hs.ok.pages
  have h2 := ht.ok.pages
  rw [load_live hs hp, load_live ht (by omega), best_two, best_two, pg_same 0 hl (by omega) (fun j _ _ => h j (by omega)), pg_same 1 hl (by omega) (fun j _ _ => h j (by omega))]
theorem KL.new (n : Nat) (h : 34 ≤ n) (h2 : n ≤ 64) : KL (FlS.new n) zeroS :=
  ⟨FlS.Live.new n (by omega) h2, by simp [FlS.new]; exact h, by rw [new_load n (by omega)], zeroS_ok, by decide⟩
/-- a record is remembered -/
theorem KL.rem {s : FlS} {R : RecS} (h : KL s R) (hq : R.seq + 1 < 4294967296) (phase : UInt8) (done : Nat) (init : List UInt8) (hr : (R.put phase done init).right = true) :
    ∃ t, kRem s R phase done init = (t, { R.put phase done init with seq := R.seq + 1 }, 0) ∧ KL t { R.put phase done init with seq := R.seq + 1 } ∧ t.load.2.2 = 0 ∧ t.B.length = s.B.length ∧ t.worn.length = s.worn.length ∧ ∀ j, 512 ≤ j → j < s.B.length → t.B.getD j 0 = s.B.getD j 0 := by
  have hrr := hr
  simp only [RecS.right, decide_eq_true_eq] at hrr
  have hd : done ≤ 4096 := hrr.2.1
  have hi : init.length ≤ 128 := hrr.2.2.2.1
  have ok' : (R.put phase done init).Ok := put_ok h.ok phase done (by omega) init (by omega)
  have hw := h.worn
  obtain ⟨a1, a2, a3, a4, a5⟩ := fl_save h.live (by omega) (R.put phase done init) ok' hr (by rw [h.load]; exact hq)
  rw [h.load] at a1 a5
  have hpg := h.pages
  have hlow : ∀ j, 512 ≤ j → j < s.B.length → (s.save (R.put phase done init)).1.B.getD j 0 = s.B.getD j 0 := by
    intro j j1 j2
    have hto := to_le s
    have hb : (recBytes { (R.put phase done init) with seq := s.load.1.seq + 1 }).length = 160 := recBytes_len _ hi
    obtain ⟨w1, w2, w3, w4⟩ := live_write h.live s.to _ hb (by omega)
    have hL := load_live h.live (by omega : 2 ≤ s.worn.length)
    have e15 : s.load.2.2 = 0 ∨ s.load.2.2 = 15 := by rw [hL]; exact best_err s 2
    have h3 : ({ (R.put phase done init) with seq := s.load.1.seq + 1 } : RecS).right = true := hr
    have hsq : s.load.1.seq + 1 < 4294967296 := by rw [h.load]; exact hq
    have hsv : s.save (R.put phase done init) = ((s.write s.to (recBytes { (R.put phase done init) with seq := s.load.1.seq + 1 })).1, { (R.put phase done init) with seq := s.load.1.seq + 1 }, 0) := by
      unfold FlS.save
      rw [if_neg (by omega), if_neg (by omega), if_neg (by simp [h3]), if_neg (by simp [w1])]
    rw [hsv]
    show (s.write s.to _).1.B.getD j 0 = _
    rw [w4 j j2, if_neg (by omega), if_neg (by omega)]
  refine ⟨(s.save (R.put phase done init)).1, ?_, ⟨a2, by omega, by rw [a5], ⟨hq, ok'.floor, ok'.bytes, ok'.sum, ok'.done, ok'.init⟩, hr⟩, by rw [a5], a3, a4, hlow⟩
  unfold kRem
  rw [a1]
  simp
/-- pages of the keeper's bank are erased -/
theorem KL.clr {s : FlS} {R : RecS} (h : KL s R) (a k : Nat) (hk : a + k ≤ 16) :
    (s.clr 18 a k).2 = 0 ∧ KL (s.clr 18 a k).1 R ∧ (s.clr 18 a k).1.load = s.load ∧ (s.clr 18 a k).1.B.length = s.B.length ∧ ∀ j, j < s.B.length → (s.clr 18 a k).1.B.getD j 0 = if (18 + a) * 256 ≤ j ∧ j < (18 + a + k) * 256 then 255 else s.B.getD j 0 := by
  have hw := h.worn
  have hpg := h.pages
  obtain ⟨c1, c2, c3, c4⟩ := live_clr k h.live 18 a (by omega)
  have hL : (s.clr 18 a k).1.load = s.load := load_same h.live c2 (by omega) c3 fun j hj => by
    rw [c4 j (by omega), if_neg (by omega)]
  have := c2.ok.pages
  exact ⟨c1, ⟨c2, by omega, by rw [hL]; exact h.load, h.ok, h.right⟩, hL, c3, c4⟩
/-- bytes are put on what is erased -/
theorem KL.prog {s : FlS} {R : RecS} (h : KL s R) (a : Nat) (ha : 512 ≤ a) (lb : List UInt8) (h4 : lb.length % 4 = 0) (hl : a + lb.length ≤ s.B.length) (he : ∀ j, j < lb.length → s.B.getD (a + j) 0 = 255) :
    (s.prog a lb).2 = 0 ∧ KL (s.prog a lb).1 R ∧ (s.prog a lb).1.load = s.load ∧ (s.prog a lb).1.B.length = s.B.length ∧ ∀ j, j < s.B.length → (s.prog a lb).1.B.getD j 0 = if a ≤ j ∧ j < a + lb.length then lb.getD (j - a) 0 else s.B.getD j 0 := by
  have hw := h.worn
  have hpg := h.pages
  obtain ⟨c1, c2, c3⟩ := live_prog h.live a lb h4 hl fun j hj => by rw [he j hj]; exact and_ones8 _
  have hB := FlS.prog_length s a lb
  have hL : (s.prog a lb).1.load = s.load := load_same h.live c2 (by omega) hB fun j hj => by
    rw [c3 j (by omega), if_neg (by omega)]
  have := c2.ok.pages
  exact ⟨c1, ⟨c2, by omega, by rw [hL]; exact h.load, h.ok, h.right⟩, hL, hB, c3⟩
theorem right_of {s : RecS} (h1 : s.bytes ≤ 4096) (h2 : s.done ≤ 4096) (h3 : s.phase.toNat ≤ 2) (h4 : s.init.length ≤ 128) (h5 : s.phase.toNat ≠ 0 ∨ s.done = 0 ∧ s.init.length = 0) : s.right = true := decide_eq_true ⟨h1, h2, h3, h4, h5⟩
/-- a transfer is begun -/
theorem KL.start {s : FlS} {R : RecS} (h : KL s R) (hq : R.seq + 2 < 4294967296) (init : List UInt8) (hi : init.length ≤ 128) :
    ∃ t, kStart s R init = (t, { R.put 1 0 init with seq := R.seq + 2 }, 0) ∧ KL t { R.put 1 0 init with seq := R.seq + 2 } ∧ t.load.2.2 = 0 ∧ t.B.length = s.B.length ∧ t.worn.length = s.worn.length ∧ (∀ j, 4608 ≤ j → j < 8704 → t.B.getD j 0 = 255) := by
  have hb : R.bytes ≤ 4096 := by
    have := h.right
    simp only [RecS.right, decide_eq_true_eq] at this
    exact this.1
  have hw := h.worn
  have hpg := h.pages
  have r0 : (R.put 0 0 []).right = true := right_of hb (Nat.zero_le _) (show (0 : UInt8).toNat ≤ 2 by decide) (Nat.zero_le _) (.inr ⟨rfl, rfl⟩)
  obtain ⟨t1, e1, k1, _, l1, w1, _⟩ := h.rem (by omega) 0 0 [] r0
  obtain ⟨c1, k2, _, l2, b2⟩ := k1.clr 0 16 (by omega)
  have r1 : (RecS.put { R.put 0 0 [] with seq := R.seq + 1 } 1 0 init).right = true := right_of hb (Nat.zero_le _) (show (1 : UInt8).toNat ≤ 2 by decide) hi (.inl (show (1 : UInt8).toNat ≠ 0 by decide))
  obtain ⟨t3, e3, k3, o3, l3, w3, b3⟩ := k2.rem (show R.seq + 1 + 1 < 4294967296 by omega) 1 0 init r1
  have hst : kStart s R init = (t3, { R.put 1 0 init with seq := R.seq + 2 }, 0) := by
    unfold kStart
    rw [e1]
    rw [if_neg (by simp), if_neg (by simp [c1])]
    exact e3
  have ww := k2.pages
  have w0 := k1.pages
  refine ⟨t3, hst, k3, o3, by omega, by omega, fun j j1 j2 => ?_⟩
  rw [b3 j (by omega) (by omega), b2 j (by omega), if_pos (by omega)]
/-- bytes are put -/
theorem KL.put {s : FlS} {R : RecS} (h : KL s R) (hq : R.seq + 1 < 4294967296) (hph : R.phase = 1) (b : List UInt8) (hd : R.done % 256 = 0) (hl : R.done + b.length ≤ 4096) :
    ∃ t, kPut s R b = (t, { R.put 1 (R.done + b.length) R.init with seq := R.seq + 1 }, 0) ∧ KL t { R.put 1 (R.done + b.length) R.init with seq := R.seq + 1 } ∧ t.load.2.2 = 0 ∧ t.B.length = s.B.length ∧ t.worn.length = s.worn.length ∧
      (∀ j, j < b.length → t.B.getD (4608 + R.done + j) 0 = b.getD j 0) ∧ ∀ j, 512 ≤ j → j < 4608 + R.done → t.B.getD j 0 = s.B.getD j 0 := by
  have hrr := h.right
  simp only [RecS.right, decide_eq_true_eq] at hrr
  have hw := h.worn
  have hpg := h.pages
  have hP := padW_len b
  obtain ⟨c1, k2, _, l2, b2⟩ := h.clr (R.done / 256) ((R.done + b.length + 255) / 256 - R.done / 256) (by omega)
  obtain ⟨d1, k3, _, l3, b3⟩ := k2.prog (4608 + R.done) (by omega) (padW b) (by omega) (by omega) fun j hj => by
    rw [b2 _ (by omega), if_pos (by omega)]
  have r1 : (R.put 1 (R.done + b.length) R.init).right = true := right_of hrr.1 hl (show (1 : UInt8).toNat ≤ 2 by decide) hrr.2.2.2.1 (.inl (show (1 : UInt8).toNat ≠ 0 by decide))
  obtain ⟨t4, e4, k4, o4, l4, w4, b4⟩ := k3.rem hq 1 (R.done + b.length) R.init r1
  have hst : kPut s R b = (t4, { R.put 1 (R.done + b.length) R.init with seq := R.seq + 1 }, 0) := by
    unfold kPut
    rw [if_neg (by simp [hph]), if_neg (by omega), if_neg (by simp [c1]), if_neg (by simp [d1])]
    exact e4
  have w2 := k2.pages
  have w3 := k3.pages
  refine ⟨t4, hst, k4, o4, by omega, by omega, fun j hj => ?_, fun j j1 j2 => ?_⟩
  · rw [b4 _ (by omega) (by omega), b3 _ (by omega), if_pos (by omega), show 4608 + R.done + j - (4608 + R.done) = j by omega]
    unfold padW
    rw [List.getD_eq_getElem?_getD, List.getD_eq_getElem?_getD, List.getElem?_append_left hj]
  · rw [b4 _ (by omega) (by omega), b3 _ (by omega), if_neg (by omega), b2 _ (by omega), if_neg (by omega)]
end Go.Proofs.Ytjdebgbiockafaa
