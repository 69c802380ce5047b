/- Settings, as lists of bytes: what is loaded, and saved. No Go function is spoken of. -/
import Derived.Test.YtgmpmlneoiagdaaGreatDoorFlash7
import Derived.Test.YtgmpmlneoiagdaaGreatDoorGRecB
namespace Go.Proofs.YtgmpmlneoiagdaaGreatDoor
set_option linter.unusedVariables false
set_option linter.unusedSimpArgs false

/-- a page's bytes, as far as a record goes -/
def FlS.pg (s : FlS) (k : Nat) : List UInt8 := (s.B.drop (256 * k)).take 160
/-- the newest record of the first k pages, its page, and the error -/
def FlS.best (s : FlS) : Nat → RecS × Nat × Nat
  | 0 => (zeroS, 0, 15)
  | k + 1 => if recErr (s.pg k) = 0 ∧ ((s.best k).2.2 = 15 ∨ (s.best k).1.seq < (readS (s.pg k)).seq) then (readS (s.pg k), k, 0) else s.best k
/-- what is loaded -/
def FlS.load (s : FlS) : RecS × Nat × Nat := if s.B.length < 512 then (zeroS, 0, 1) else if s.off then (zeroS, 0, 5) else s.best 2
/-- the page that is written -/
def FlS.to (s : FlS) : Nat := if s.load.2.2 = 0 then 1 - s.load.2.1 else 0
theorem readS_any (d : List UInt8) : (readS d).Ok := by
  refine ⟨numS_lt d 4 4, numS_lt d 8 4, numS_lt d 12 4, numS_lt d 16 4, numS_lt d 24 4, ?_⟩
  simp only [readS, List.length_take]
  omega
theorem zeroS_ok : zeroS.Ok := ⟨by decide, by decide, by decide, by decide, by decide, by decide⟩
theorem best_ok (s : FlS) : ∀ k, (s.best k).1.Ok
  | 0 => zeroS_ok
  | k + 1 => by
    unfold FlS.best
    split
    · exact readS_any _
    · exact best_ok s k
theorem best_err (s : FlS) : ∀ k, (s.best k).2.2 = 0 ∨ (s.best k).2.2 = 15
  | 0 => .inr rfl
  | k + 1 => by
    unfold FlS.best
    split
    · exact .inl rfl
    · exact best_err s k
theorem load_ok (s : FlS) : s.load.1.Ok := by
  unfold FlS.load
  split
  · exact best_ok s 0
  · split
    · exact best_ok s 0
    · exact best_ok s 2
theorem load_err (s : FlS) : s.load.2.2 ≤ 15 := by
  unfold FlS.load
  split
  · exact Nat.le_of_ble_eq_true rfl
  · split
    · exact Nat.le_of_ble_eq_true rfl
    · rcases best_err s 2 with h | h <;> omega
end Go.Proofs.YtgmpmlneoiagdaaGreatDoor
