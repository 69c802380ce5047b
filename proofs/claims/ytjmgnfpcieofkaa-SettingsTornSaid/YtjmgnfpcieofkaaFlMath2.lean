/- What is saved on flash whose power stays is loaded again. No Go function is spoken of. -/
import Derived.Test.YtjmgnfpcieofkaaFlMath
import Derived.Test.YtjmgnfpcieofkaaSetMath
import Derived.Test.YtjmgnfpcieofkaaRecMath2
namespace Go.Proofs.Ytjmgnfpcieofkaa
set_option linter.unusedVariables false
set_option linter.unusedSimpArgs false

theorem pg_get (s : FlS) (k i : Nat) : (s.pg k)[i]? = if i < 160 then s.B[256 * k + i]? else Option.none := by
  unfold FlS.pg
  rw [List.getElem?_take, List.getElem?_drop]
theorem get_of_getD {l m : List UInt8} {i j : Nat} (hi : i < l.length) (hj : j < m.length) (h : l.getD i 0 = m.getD j 0) : l[i]? = m[j]? := by
  rw [List.getElem?_eq_getElem hi, List.getElem?_eq_getElem hj]
  rw [List.getD_eq_getElem?_getD, List.getD_eq_getElem?_getD, List.getElem?_eq_getElem hi, List.getElem?_eq_getElem hj] at h
  exact congrArg some h
/-- a page that is not touched -/
theorem pg_same {s t : FlS} (k : Nat) (hl : t.B.length = s.B.length) (hk : 256 * k + 160 ≤ s.B.length) (h : ∀ j, 256 * k ≤ j → j < 256 * k + 160 → t.B.getD j 0 = s.B.getD j 0) : t.pg k = s.pg k := by
  apply List.ext_getElem?
  intro i
  rw [pg_get, pg_get]
  by_cases hi : i < 160
  · rw [if_pos hi, if_pos hi]
    exact get_of_getD (by omega) (by omega) (h _ (by omega) (by omega))
  · rw [if_neg hi, if_neg hi]
/-- a page that is written -/
theorem pg_new {t : FlS} (k : Nat) (b : List UInt8) (hb : b.length = 160) (hk : 256 * k + 160 ≤ t.B.length) (h : ∀ j, 256 * k ≤ j → j < 256 * k + 160 → t.B.getD j 0 = b.getD (j - 256 * k) 0) : t.pg k = b := by
  apply List.ext_getElem?
  intro i
  rw [pg_get]
  by_cases hi : i < 160
  · rw [if_pos hi]
    refine get_of_getD (by omega) (by omega) ?_
    rw [h _ (by omega) (by omega), show 256 * k + i - 256 * k = i by omega]
  · rw [if_neg hi, List.getElem?_eq_none (by omega)]
theorem best_two (s : FlS) : s.best 2 = if recErr (s.pg 1) = 0 ∧ ((if recErr (s.pg 0) = 0 then (readS (s.pg 0), 0, 0) else (zeroS, 0, 15) : RecS × Nat × Nat).2.2 = 15 ∨ (if recErr (s.pg 0) = 0 then (readS (s.pg 0), 0, 0) else (zeroS, 0, 15) : RecS × Nat × Nat).1.seq < (readS (s.pg 1)).seq) then (readS (s.pg 1), 1, 0) else if recErr (s.pg 0) = 0 then (readS (s.pg 0), 0, 0) else (zeroS, 0, 15) := by
  have h1 : s.best 1 = if recErr (s.pg 0) = 0 then (readS (s.pg 0), 0, 0) else (zeroS, 0, 15) := by
    show (if recErr (s.pg 0) = 0 ∧ ((s.best 0).2.2 = 15 ∨ (s.best 0).1.seq < (readS (s.pg 0)).seq) then (readS (s.pg 0), 0, 0) else s.best 0) = _
    by_cases h : recErr (s.pg 0) = 0
    · rw [if_pos ⟨h, .inl rfl⟩, if_pos h]
    · rw [if_neg (fun c => h c.1), if_neg h]; rfl
  show (if recErr (s.pg 1) = 0 ∧ ((s.best 1).2.2 = 15 ∨ (s.best 1).1.seq < (readS (s.pg 1)).seq) then (readS (s.pg 1), 1, 0) else s.best 1) = _
  rw [h1]
/-- what is written beyond the newest is the newest -/
theorem best_next {s t : FlS} {q : RecS} (hq : q.seq = (s.best 2).1.seq + 1) (he : recErr (recBytes q) = 0) (hr : readS (recBytes q) = q)
    (h0 : t.pg (if (s.best 2).2.2 = 0 then 1 - (s.best 2).2.1 else 0) = recBytes q) (h1 : t.pg (1 - (if (s.best 2).2.2 = 0 then 1 - (s.best 2).2.1 else 0)) = s.pg (1 - (if (s.best 2).2.2 = 0 then 1 - (s.best 2).2.1 else 0))) :
    t.best 2 = (q, (if (s.best 2).2.2 = 0 then 1 - (s.best 2).2.1 else 0), 0) := by
  rw [best_two t]
  rw [best_two s] at hq h0 h1 ⊢
  by_cases e0 : recErr (s.pg 0) = 0
  · simp only [if_pos e0] at hq h0 h1 ⊢
    by_cases e1 : recErr (s.pg 1) = 0 ∧ ((0 : Nat) = 15 ∨ (readS (s.pg 0)).seq < (readS (s.pg 1)).seq)
    · simp only [if_pos e1, if_true, Nat.sub_self, Nat.sub_zero] at hq h0 h1 ⊢
      rw [h0, h1, he, hr]
      simp only [if_true]
      rw [if_neg (by rintro ⟨_, h | h⟩ <;> omega)]
    · simp only [if_neg e1, if_true, Nat.sub_self, Nat.sub_zero] at hq h0 h1 ⊢
      rw [h0, h1, he, hr]
      simp only [if_pos e0]
      rw [if_pos ⟨trivial, .inr (by omega)⟩]
  · simp only [if_neg e0] at hq h0 h1 ⊢
    by_cases e1 : recErr (s.pg 1) = 0
    · simp only [e1, true_and, true_or, if_true, Nat.sub_self, Nat.sub_zero] at hq h0 h1 ⊢
      rw [h0, h1, he, hr]
      simp only [if_true]
      rw [if_neg (by rintro ⟨_, h | h⟩ <;> omega)]
    · simp only [e1, false_and, if_false, if_true, Nat.sub_self, Nat.sub_zero, show ((15 : Nat) = 0) = False by simp] at hq h0 h1 ⊢
      rw [h0, h1, he, hr]
      simp only [if_true]
      rw [if_neg (fun c => e1 c.1)]
theorem load_live {s : FlS} (h : s.Live) (hp : 2 ≤ s.worn.length) : s.load = s.best 2 := by
  have hpg := h.ok.pages
  unfold FlS.load
  rw [if_neg (by omega), if_neg (by simp [h.off])]
/-- what is saved is loaded -/
theorem fl_save {s : FlS} (h : s.Live) (hp : 2 ≤ s.worn.length) (r : RecS) (ok : r.Ok) (hr : r.right = true) (hs : s.load.1.seq + 1 < 4294967296) :
    (s.save r).2 = ({ r with seq := s.load.1.seq + 1 }, 0) ∧ (s.save r).1.Live ∧ (s.save r).1.B.length = s.B.length ∧ (s.save r).1.worn.length = s.worn.length ∧ (s.save r).1.load = ({ r with seq := s.load.1.seq + 1 }, s.to, 0) := by
  have hpg := h.ok.pages
  have hL := load_live h hp
  have hto := to_le s
  have h3 : ({ r with seq := s.load.1.seq + 1 } : RecS).right = true := hr
  have ok3 : ({ r with seq := s.load.1.seq + 1 } : RecS).Ok := ⟨hs, ok.floor, ok.bytes, ok.sum, ok.done, ok.init⟩
  have hi : r.init.length ≤ 128 := by
    simp only [RecS.right, decide_eq_true_eq] at hr
    exact hr.2.2.2.1
  have hb : (recBytes { r with seq := s.load.1.seq + 1 }).length = 160 := recBytes_len _ hi
  have he := recErr_bytes _ ok3 h3
  have hrd := read_bytes _ ok3 hi
  obtain ⟨w1, w2, w3, w4⟩ := live_write h s.to _ hb (by omega)
  have e15 : s.load.2.2 = 0 ∨ s.load.2.2 = 15 := by rw [hL]; exact best_err s 2
  have hsv : s.save r = ((s.write s.to (recBytes { r with seq := s.load.1.seq + 1 })).1, { r with seq := s.load.1.seq + 1 }, 0) := by
    unfold FlS.save
    rw [if_neg (by omega), if_neg (by omega), if_neg (by simp [h3]), if_neg (by simp [w1])]
  have ww : (s.write s.to (recBytes { r with seq := s.load.1.seq + 1 })).1.worn.length = s.worn.length := by
    have := w2.ok.pages
    omega
  rw [hsv]
  refine ⟨rfl, w2, w3, ww, ?_⟩
  show (s.write s.to (recBytes { r with seq := s.load.1.seq + 1 })).1.load = _
  rw [load_live w2 (by omega)]
  have hT : s.to = if (s.best 2).2.2 = 0 then 1 - (s.best 2).2.1 else 0 := by unfold FlS.to; rw [hL]
  rw [hT]
  refine best_next (s := s) (by rw [hL]) he hrd ?_ ?_
  · rw [← hT]
    refine pg_new _ _ hb (by omega) fun j j1 j2 => ?_
    rw [w4 j (by omega), if_pos (by omega), Nat.mul_comm s.to 256]
  · rw [← hT]
    refine pg_same _ w3 (by omega) fun j j1 j2 => ?_
    rw [w4 j (by omega), if_neg (by omega), if_neg (by omega)]
theorem recErr_erased : recErr (List.replicate 160 255) = 7 := by
  set_option maxRecDepth 100000 in decide +kernel
theorem new_load (n : Nat) (h : 2 ≤ n) : (FlS.new n).load = (zeroS, 0, 15) := by
  have hpg : ∀ k, k < 2 → (FlS.new n).pg k = List.replicate 160 255 := fun k hk => by
    unfold FlS.pg FlS.new
    rw [List.drop_replicate, List.take_replicate, show min 160 (n * 256 - 256 * k) = 160 by omega]
  have hl : (FlS.new n).B.length = n * 256 := by simp [FlS.new]
  unfold FlS.load
  rw [if_neg (by omega), if_neg (by simp [FlS.new]), best_two, hpg 0 (by omega), hpg 1 (by omega), recErr_erased]
  rfl
end Go.Proofs.Ytjmgnfpcieofkaa
