/- Settings, as lists of bytes: what is loaded, and saved. No Go function is spoken of. -/
import Derived.Test.YtgmpmlneoiagdaaGreatDoorGFlN
import Derived.Test.YtgmpmlneoiagdaaGreatDoorGRecB
namespace Go.Proofs.YtgmpmlneoiagdaaGreatDoor
set_option linter.unusedVariables false
set_option linter.unusedSimpArgs false

/-- a page's bytes, as far as a record goes -/
def FlS.pg (s : FlS) (k : Nat) : List UInt8 := (s.B.drop (256 * k)).take 160
/-- the newest record of the first k pages, its page, and the error -/
def FlS.best (s : FlS) : Nat → RecS × Nat × Nat
  | 0 => (zeroS, 0, 15)
  | k + 1 => if recErr (s.pg k) = 0 ∧ ((s.best k).2.2 = 15 ∨ (s.best k).1.seq < (readS (s.pg k)).seq) then (readS (s.pg k), k, 0) else s.best k
/-- what is loaded -/
def FlS.load (s : FlS) : RecS × Nat × Nat := if s.B.length < 512 then (zeroS, 0, 1) else if s.off then (zeroS, 0, 5) else s.best 2
/-- three steps of a page: its first word is broken, it is erased, and written -/
def FlS.write (s : FlS) (to : Nat) (b : List UInt8) : FlS × Nat :=
  if (s.prog (to * 256) [0, 0, 0, 0]).2 ≠ 0 then s.prog (to * 256) [0, 0, 0, 0]
  else if ((s.prog (to * 256) [0, 0, 0, 0]).1.era to).2 ≠ 0 then (s.prog (to * 256) [0, 0, 0, 0]).1.era to
  else ((s.prog (to * 256) [0, 0, 0, 0]).1.era to).1.prog (to * 256) b
/-- the page that is written -/
def FlS.to (s : FlS) : Nat := if s.load.2.2 = 0 then 1 - s.load.2.1 else 0
/-- what is saved: the flash, the record, and the error -/
def FlS.save (s : FlS) (r : RecS) : FlS × RecS × Nat :=
  if s.load.2.2 ≠ 0 ∧ s.load.2.2 ≠ 15 then (s, zeroS, s.load.2.2)
  else if s.load.1.seq = 4294967295 then (s, zeroS, 16)
  else if ({ r with seq := s.load.1.seq + 1 } : RecS).right = false then (s, zeroS, 1)
  else if (s.write s.to (recBytes { r with seq := s.load.1.seq + 1 })).2 ≠ 0 then ((s.write s.to (recBytes { r with seq := s.load.1.seq + 1 })).1, zeroS, (s.write s.to (recBytes { r with seq := s.load.1.seq + 1 })).2)
  else ((s.write s.to (recBytes { r with seq := s.load.1.seq + 1 })).1, { r with seq := s.load.1.seq + 1 }, 0)

theorem readS_any (d : List UInt8) : (readS d).Ok := by
  refine ⟨numS_lt d 4 4, numS_lt d 8 4, numS_lt d 12 4, numS_lt d 16 4, numS_lt d 24 4, ?_⟩
  simp only [readS, List.length_take]
  omega
theorem zeroS_ok : zeroS.Ok := ⟨by decide, by decide, by decide, by decide, by decide, by decide⟩
theorem best_ok (s : FlS) : ∀ k, (s.best k).1.Ok
  | 0 => zeroS_ok
  | k + 1 => by
    unfold FlS.best
    split
    · exact readS_any _
    · exact best_ok s k
theorem best_page (s : FlS) : ∀ k, (s.best k).2.1 ≤ k - 1
  | 0 => Nat.le_refl _
  | k + 1 => by
    unfold FlS.best
    have := best_page s k
    split
    · simp
    · omega
theorem best_err (s : FlS) : ∀ k, (s.best k).2.2 = 0 ∨ (s.best k).2.2 = 15
  | 0 => .inr rfl
  | k + 1 => by
    unfold FlS.best
    split
    · exact .inl rfl
    · exact best_err s k
theorem load_ok (s : FlS) : s.load.1.Ok := by
  unfold FlS.load
  split
  · exact best_ok s 0
  · split
    · exact best_ok s 0
    · exact best_ok s 2
theorem load_page (s : FlS) : s.load.2.1 ≤ 1 := by
  unfold FlS.load
  split
  · exact Nat.zero_le _
  · split
    · exact Nat.zero_le _
    · exact best_page s 2
theorem to_le (s : FlS) : s.to ≤ 1 := by unfold FlS.to; split <;> omega
theorem load_err (s : FlS) : s.load.2.2 ≤ 15 := by
  unfold FlS.load
  split
  · exact Nat.le_of_ble_eq_true rfl
  · split
    · exact Nat.le_of_ble_eq_true rfl
    · rcases best_err s 2 with h | h <;> omega
theorem FlS.Fit.write {s : FlS} {n : Nat} (h : s.Fit n) (to : Nat) (b : List UInt8) (hb : b.length ≤ 1000) : (s.write to b).1.Fit (n + 252) := by
  have h1 : (s.prog (to * 256) [0, 0, 0, 0]).1.Fit (n + 1) := h.prog _ _
  have h2 := h1.era to
  have h3 := h2.prog (to * 256) b
  unfold FlS.write
  split
  · exact h1.mono (by omega)
  · split
    · exact h2.mono (by omega)
    · exact h3.mono (by omega)
theorem FlS.Fit.save {s : FlS} {n : Nat} (h : s.Fit n) (r : RecS) : (s.save r).1.Fit (n + 252) := by
  unfold FlS.save
  split
  · exact h.mono (by omega)
  · split
    · exact h.mono (by omega)
    · split
      · exact h.mono (by omega)
      · rename_i h3
        have hb : (recBytes { r with seq := s.load.1.seq + 1 }).length ≤ 1000 := by
          have hh : ({ r with seq := s.load.1.seq + 1 } : RecS).right = true := by simpa using h3
          generalize ({ r with seq := s.load.1.seq + 1 } : RecS) = q at hh ⊢
          simp only [RecS.right, decide_eq_true_eq] at hh
          rw [recBytes_len q hh.2.2.2.1]; omega
        split
        · exact h.write _ _ hb
        · exact h.write _ _ hb
end Go.Proofs.YtgmpmlneoiagdaaGreatDoor
