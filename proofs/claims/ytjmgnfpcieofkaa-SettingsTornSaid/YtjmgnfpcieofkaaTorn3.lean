/- A record is saved, and the power may go: the newest one is the last one, or the one that was to be. No Go function is spoken of. -/
import Derived.Test.YtjmgnfpcieofkaaTorn2
namespace Go.Proofs.Ytjmgnfpcieofkaa
set_option linter.unusedVariables false
set_option linter.unusedSimpArgs false

/-- the newest record is in page pl; the other page is odd -/
structure Two (t i : Nat) (s : FlS) (R : RecS) (pl : Nat) : Prop where
  le : pl ≤ 1
  row : s.pg pl = recBytes R
  ok : R.Ok
  right : R.right = true
  odd : Odd t i R.seq (s.pg (1 - pl))
theorem Two.mono {t i i' : Nat} {s : FlS} {R : RecS} {pl : Nat} (h : Two t i s R pl) (hi : i ≤ i') : Two t i' s R pl := ⟨h.le, h.row, h.ok, h.right, h.odd.mono hi (Nat.le_refl _)⟩
theorem Two.same {t i : Nat} {s s' : FlS} {R : RecS} {pl : Nat} (h : Two t i s R pl) (h0 : s'.pg 0 = s.pg 0) (h1 : s'.pg 1 = s.pg 1) : Two t i s' R pl := by
  have e : ∀ k, k ≤ 1 → s'.pg k = s.pg k := fun k hk => by
    match k, hk with
    | 0, _ => exact h0
    | 1, _ => exact h1
  exact ⟨h.le, by rw [e _ h.le]; exact h.row, h.ok, h.right, by rw [e _ (by omega)]; exact h.odd⟩
theorem right_init {R : RecS} (h : R.right = true) : R.init.length ≤ 128 := by
  simp only [RecS.right, decide_eq_true_eq] at h
  exact h.2.2.2.1
theorem Two.load {t i : Nat} {s : FlS} {R : RecS} {pl : Nat} (h : Two t i s R pl) (hi : i ≤ 25) (hoff : s.off = false) (hB : 512 ≤ s.B.length) : s.load = (R, pl, 0) := by
  obtain ⟨hpl, hpg, ok, hr, hodd⟩ := h
  have he := recErr_bytes R ok hr
  have hrd := read_bytes R ok (right_init hr)
  unfold FlS.load
  rw [if_neg (by omega), if_neg (by simp [hoff]), best_two]
  have hs := hodd.safe hi
  match pl, hpl with
  | 0, _ =>
    rw [hpg, he, hrd]
    simp only [if_true]
    rw [if_neg]
    rintro ⟨c1, c2 | c2⟩
    · omega
    · have := hs c1
      simp only [Nat.sub_zero] at this
      omega
  | 1, _ =>
    rw [hpg, he, hrd]
    simp only [Nat.sub_self] at hs
    by_cases h0 : recErr (s.pg 0) = 0
    · simp only [if_pos h0]
      rw [if_pos ⟨trivial, .inr (hs h0)⟩]
    · simp only [if_neg h0]
      rw [if_pos ⟨trivial, .inl trivial⟩]
theorem pg_len {s : FlS} (k : Nat) (h : 256 * k + 160 ≤ s.B.length) : (s.pg k).length = 160 := by
  unfold FlS.pg
  rw [List.length_take, List.length_drop]
  omega
/-- an old record is odd -/
theorem Odd.ofRec {t i q : Nat} {R : RecS} (ok : R.Ok) (hr : R.right = true) (hq : R.seq < q) : Odd t i q (recBytes R) :=
  .old (numS_mark R) fun _ => by rw [read_bytes R ok (right_init hr)]; exact hq
/-- a record is saved, and the power may go -/
theorem torn_save {t i : Nat} {s : FlS} {R : RecS} {pl : Nat} (hu : s.Up (tearK t i)) (h : Two t i s R pl) (hi : i ≤ 25) (hw : 2 ≤ s.worn.length) (r : RecS) (ok : r.Ok) (hr : r.right = true) (hq : R.seq + 1 < 4294967296) :
    ((s.save r).1.B.length = s.B.length ∧ (s.save r).1.worn.length = s.worn.length ∧ ∀ j, 512 ≤ j → j < s.B.length → (s.save r).1.B.getD j 0 = s.B.getD j 0) ∧
    (((s.save r).2 = ({ r with seq := R.seq + 1 }, 0) ∧ (s.save r).1.Up (tearK t i) ∧ ((s.save r).1.armed = true → s.armed = true) ∧ ∃ pl', Two t i (s.save r).1 { r with seq := R.seq + 1 } pl') ∨
     ((s.save r).2 = (zeroS, 5) ∧ (s.save r).1.Down ∧ s.armed = true ∧ ∃ pl', Two t (i + 1) (s.save r).1 R pl' ∨ Two t (i + 1) (s.save r).1 { r with seq := R.seq + 1 } pl')) := by
  have hpg := hu.ok.pages
  have hL := h.load hi hu.off (by omega)
  have hto : s.to = 1 - pl := by unfold FlS.to; rw [hL]; rfl
  have h3 : ({ r with seq := R.seq + 1 } : RecS).right = true := hr
  have ok3 : ({ r with seq := R.seq + 1 } : RecS).Ok := ⟨hq, ok.floor, ok.bytes, ok.sum, ok.done, ok.init⟩
  have hb := recBytes_len { r with seq := R.seq + 1 } (right_init h3)
  have hpl := h.le
  have hpl1 : 1 - (1 - pl) = pl := by omega
  obtain ⟨A, hA⟩ : ∃ A, (1 - pl) * 256 = A := ⟨_, rfl⟩
  have hA2 : (pl = 0 ∧ A = 256) ∨ (pl = 1 ∧ A = 0) := by omega
  obtain ⟨⟨l1, l2, l3⟩, hcase⟩ := up_write hu (1 - pl) A hA _ hb (by omega)
  have hsame : (s.write (1 - pl) (recBytes { r with seq := R.seq + 1 })).1.pg pl = s.pg pl := by
    refine pg_same pl l1 (by omega) fun j j1 j2 => l3 j (by omega) ?_
    omega
  have hlow : ∀ j, 512 ≤ j → j < s.B.length → (s.write (1 - pl) (recBytes { r with seq := R.seq + 1 })).1.B.getD j 0 = s.B.getD j 0 := by
    intro j j1 j2
    refine l3 j j2 ?_
    omega
  have hnew : (s.write (1 - pl) (recBytes { r with seq := R.seq + 1 })).1.pg (1 - pl) = recBytes { r with seq := R.seq + 1 } → ∀ i', Two t i' (s.write (1 - pl) (recBytes { r with seq := R.seq + 1 })).1 { r with seq := R.seq + 1 } (1 - pl) := fun e i' => by
    refine ⟨by omega, e, ok3, h3, ?_⟩
    rw [hpl1, hsame, h.row]
    exact .ofRec h.ok h.right (Nat.lt_succ_self _)
  rcases hcase with ⟨e1, c2, c3, c4⟩ | ⟨e1, c2, c3, c4⟩
  · have hsv : s.save r = ((s.write (1 - pl) (recBytes { r with seq := R.seq + 1 })).1, { r with seq := R.seq + 1 }, 0) := by
      unfold FlS.save
      rw [hto, hL]
      rw [if_neg (by simp), if_neg (by show ¬ R.seq = 4294967295; omega), if_neg (by simp [h3]), if_neg (by simp [e1])]
    rw [hsv]
    exact ⟨⟨l1, l2, hlow⟩, .inl ⟨rfl, c2, c3, _, hnew c4 i⟩⟩
  · have hsv : s.save r = ((s.write (1 - pl) (recBytes { r with seq := R.seq + 1 })).1, zeroS, 5) := by
      unfold FlS.save
      rw [hto, hL]
      rw [if_neg (by simp), if_neg (by show ¬ R.seq = 4294967295; omega), if_neg (by simp [h3]), if_pos (by simp [e1]), e1]
    rw [hsv]
    refine ⟨⟨l1, l2, hlow⟩, .inr ⟨rfl, c2, c3, ?_⟩⟩
    have hlen : (s.pg (1 - pl)).length = 160 := pg_len _ (by omega)
    have hlen' : ((s.write (1 - pl) (recBytes { r with seq := R.seq + 1 })).1.pg (1 - pl)).length = 160 := pg_len _ (by omega)
    rcases h.odd.tear hlen hlen' ok3 h3 c4 with e | e
    · exact ⟨1 - pl, .inr (hnew e (i + 1))⟩
    · exact ⟨pl, .inl ⟨hpl, by rw [hsame]; exact h.row, h.ok, h.right, e⟩⟩
/-- the first record, on flash whose power stays -/
theorem first_save (n t : Nat) (h : 2 ≤ n) (h2 : n ≤ 64) (r : RecS) (ok : r.Ok) (hr : r.right = true) :
    ((FlS.new n).save r).2 = ({ r with seq := 1 }, 0) ∧ ((FlS.new n).save r).1.Live ∧ ((FlS.new n).save r).1.worn.length = n ∧ Two t 0 ((FlS.new n).save r).1 { r with seq := 1 } 0 ∧ ∀ j, 512 ≤ j → j < 256 * n → ((FlS.new n).save r).1.B.getD j 0 = 255 := by
  have hv : (FlS.new n).Live := FlS.Live.new n (by omega) h2
  have hL := new_load n h
  have hto : (FlS.new n).to = 0 := by unfold FlS.to; rw [hL]; rfl
  have hwn : (FlS.new n).worn.length = n := by simp [FlS.new]
  have hBn : (FlS.new n).B.length = n * 256 := by simp [FlS.new]
  have h255 : ∀ j, j < n * 256 → (FlS.new n).B.getD j 0 = 255 := fun j hj => by
    simp only [FlS.new, List.getD_eq_getElem?_getD]
    rw [List.getElem?_replicate, if_pos hj]
    rfl
  have h3 : ({ r with seq := 0 + 1 } : RecS).right = true := hr
  have ok3 : ({ r with seq := 0 + 1 } : RecS).Ok := ⟨show 0 + 1 < 4294967296 by omega, ok.floor, ok.bytes, ok.sum, ok.done, ok.init⟩
  have hb := recBytes_len { r with seq := 0 + 1 } (right_init h3)
  obtain ⟨w1, w2, w3, w4⟩ := live_write hv 0 _ hb (by omega)
  simp only [Nat.zero_mul, Nat.zero_add, Nat.zero_le, true_and, Nat.sub_zero] at w4
  have ww := w2.ok.pages
  have hsv : (FlS.new n).save r = (((FlS.new n).write 0 (recBytes { r with seq := 0 + 1 })).1, { r with seq := 1 }, 0) := by
    unfold FlS.save
    rw [hto, hL]
    rw [if_neg (by simp), if_neg (by decide), if_neg (by show ¬ _ = false; rw [show zeroS.seq = 0 from rfl, h3]; decide), if_neg (by show ¬ _ ≠ 0; rw [show zeroS.seq = 0 from rfl, w1]; decide)]
    rfl
  have hwn2 : ((FlS.new n).write 0 (recBytes { r with seq := 0 + 1 })).1.worn.length = n := by omega
  have hlen : 256 * 0 + 160 ≤ ((FlS.new n).write 0 (recBytes { r with seq := 0 + 1 })).1.B.length := by omega
  rw [hsv]
  refine ⟨rfl, w2, hwn2, ⟨by omega, pg_new 0 _ hb hlen fun j j1 j2 => ?_, ok3, h3, .open fun p p1 p2 => ?_⟩, fun j j1 j2 => ?_⟩
  · rw [w4 j (by omega), if_pos (by omega)]
    rfl
  · rw [pg_getD _ _ _ p2, w4 _ (by omega), if_neg (by omega), if_neg (by omega), h255 _ (by omega)]
  · rw [w4 j (by omega), if_neg (by omega), if_neg (by omega), h255 _ (by omega)]
end Go.Proofs.Ytjmgnfpcieofkaa
