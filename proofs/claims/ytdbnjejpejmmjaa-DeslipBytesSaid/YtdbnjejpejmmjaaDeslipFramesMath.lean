/- A decoder that is fed frames: their texts come, one by one, and nothing else. -/
import Derived.Test.YtdbnjejpejmmjaaDeslip2
import Derived.Test.YtdbnjejpejmmjaaSlipMath
namespace Go.Proofs.Ytdbnjejpejmmjaa
set_option linter.unusedVariables false

def run (s : DsS) : List UInt8 → List Ev × DsS
  | [] => ([], s)
  | c :: t => (evOf (s.feed c) :: (run (s.feed c).2.2 t).1, (run (s.feed c).2.2 t).2)
theorem run_append (a b : List UInt8) : ∀ s : DsS, run s (a ++ b) = ((run s a).1 ++ (run (run s a).2 b).1, (run (run s a).2 b).2) := by
  induction a with
  | nil => intro s; rfl
  | cons c t ih => intro s; simp [run, ih]
theorem feedK_run (s : DsS) (b : List UInt8) : ∀ k, k ≤ b.length → feedK s b k = run s (b.take k) := by
  intro k
  induction k with
  | zero => intro _; rw [List.take_zero]; rfl
  | succ k ih =>
    intro h
    have e : b.take (k + 1) = b.take k ++ [b.getD k 0] := by
      rw [List.take_add_one, List.getD_eq_getElem?_getD, List.getElem?_eq_getElem (by omega)]
      rfl
    rw [e, run_append, ← ih (by omega)]
    rfl
theorem feedK_all (s : DsS) (b : List UInt8) : feedK s b b.length = run s b := by rw [feedK_run s b _ (Nat.le_refl _), List.take_length]

structure DsS.Good (s : DsS) (m : Nat) : Prop where
  most : s.most = m
  skip : s.skip = true → s.text = [] ∧ s.esc = false
theorem DsS.keep_good {s : DsS} {m : Nat} (h : s.most = m) (hs : s.skip = false) (he : s.esc = false) (c : UInt8) : (s.keep c).2.Good m := by
  unfold DsS.keep
  split
  · exact ⟨h, fun hh => by rw [hs] at hh; cases hh⟩
  · exact ⟨h, fun _ => ⟨rfl, he⟩⟩
theorem DsS.feed_good {s : DsS} {m : Nat} (h : s.Good m) (c : UInt8) : (s.feed c).2.2.Good m := by
  unfold DsS.feed
  split
  · rename_i hk; exact ⟨h.most, fun _ => h.skip hk⟩
  rename_i hk
  have hk : s.skip = false := by simpa using hk
  split
  · unfold DsS.second
    split
    · exact DsS.keep_good (s := { s with esc := false }) h.most hk rfl _
    split
    · exact DsS.keep_good (s := { s with esc := false }) h.most hk rfl _
    · exact ⟨h.most, fun _ => ⟨rfl, rfl⟩⟩
  rename_i he
  have he : s.esc = false := by simpa using he
  split
  · exact ⟨h.most, fun hh => by rw [hk] at hh; cases hh⟩
  split
  · exact ⟨h.most, fun hh => by rw [hk] at hh; cases hh⟩
  · exact DsS.keep_good h.most hk he _
theorem run_good {m : Nat} (b : List UInt8) : ∀ {s : DsS}, s.Good m → (run s b).2.Good m := by
  induction b with
  | nil => intro s h; exact h
  | cons c t ih => intro s h; exact ih (DsS.feed_good h c)
theorem end_clean {s : DsS} {m : Nat} (h : s.Good m) : (s.feed 192).2.2 = ⟨[], m, false, false⟩ := by
  obtain ⟨text, most, esc, skip⟩ := s
  obtain ⟨hm, hs⟩ := h
  dsimp only at hm hs
  subst hm
  unfold DsS.feed
  cases skip with
  | true => obtain ⟨rfl, rfl⟩ := hs rfl; rfl
  | false => cases esc <;> rfl

def zev : Ev := ⟨0, [], 0⟩
theorem run_text (m : Nat) : ∀ (b t : List UInt8), t.length + b.length ≤ m → run ⟨t, m, false, false⟩ (encText b) = (List.replicate (encText b).length zev, ⟨t ++ b, m, false, false⟩) := by
  intro b
  induction b with
  | nil => intro t _; simp [encText, run]
  | cons c l ih =>
    intro t h
    simp only [List.length_cons] at h
    have hlt : t.length < m := by omega
    have hk : ∀ c, DsS.keep ⟨t, m, false, false⟩ c = (0, ⟨t ++ [c], m, false, false⟩) := by intro c; unfold DsS.keep; rw [if_pos hlt]
    have e1 : run ⟨t, m, false, false⟩ (encByte c) = (List.replicate (encByte c).length zev, ⟨t ++ [c], m, false, false⟩) := by
      by_cases h1 : c = 192
      · subst h1
        rw [encByte_192]
        simp only [run]
        rw [show DsS.feed ⟨t, m, false, false⟩ 219 = ([], 0, ⟨t, m, true, false⟩) from rfl, show DsS.feed ⟨t, m, true, false⟩ 220 = ([], DsS.keep ⟨t, m, false, false⟩ 192) from rfl, hk]
        rfl
      · by_cases h2 : c = 219
        · subst h2
          rw [encByte_219]
          simp only [run]
          rw [show DsS.feed ⟨t, m, false, false⟩ 219 = ([], 0, ⟨t, m, true, false⟩) from rfl, show DsS.feed ⟨t, m, true, false⟩ 221 = ([], DsS.keep ⟨t, m, false, false⟩ 219) from rfl, hk]
          rfl
        · rw [encByte_other h1 h2]
          have hf : DsS.feed ⟨t, m, false, false⟩ c = ([], DsS.keep ⟨t, m, false, false⟩ c) := by
            unfold DsS.feed
            rw [if_neg (by simp), if_neg (by simp), if_neg h1, if_neg h2]
          simp only [run]
          rw [hf, hk]
          rfl
    have e2 : encText (c :: l) = encByte c ++ encText l := by simp [encText]
    rw [e2, run_append, e1]
    rw [ih (t ++ [c]) (by simp; omega)]
    simp [List.replicate_append_replicate]
theorem run_frame (m : Nat) (b : List UInt8) (h : b.length ≤ m) : run ⟨[], m, false, false⟩ (frame b) = (List.replicate (encText b).length zev ++ [evOf (b, 0, ⟨[], m, false, false⟩)], ⟨[], m, false, false⟩) := by
  unfold frame
  rw [run_append, run_text m b [] (by simpa using h)]
  rfl
end Go.Proofs.Ytdbnjejpejmmjaa
