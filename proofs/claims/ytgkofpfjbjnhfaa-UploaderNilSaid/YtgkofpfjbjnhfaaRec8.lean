/- record: Same, and the document's own Parse. -/
import Derived.Test.YtgkofpfjbjnhfaaRec7
import Derived.Deep.QuietTactic
import Derived.BigQuiet
namespace Go.Proofs.Ytgkofpfjbjnhfaa
open Go.ChangeShapes Go.WideShapes Go.ChangeAt Go.RowKit
set_option linter.unusedVariables false
set_option linter.unusedSimpArgs false

theorem recBytes_21 (s : RecS) : (recBytes s).getD 21 0 = UInt8.ofNat s.init.length := by
  unfold recBytes recHead wordB
  simp
theorem numS_sub (l : List UInt8) (a : Nat) (h : a + 4 ≤ l.length) : numS ((l.drop a).take 4) 0 4 = numS l a 4 := by
  have g : ∀ j, j < 4 → ((l.drop a).take 4).getD j 0 = l.getD (a + j) 0 := by
    intro j hj
    rw [List.getD_eq_getElem?_getD, List.getD_eq_getElem?_getD, List.getElem?_take, if_pos hj, List.getElem?_drop]
  simp only [numS, Nat.zero_add]
  rw [g 0 (by omega), g 1 (by omega), g 2 (by omega), g 3 (by omega)]
theorem recErr_long {l : List UInt8} (hl : l.length = 160) (hk : numS l 0 4 = 827216706) (hs : numS l 156 4 = chkN (l.take 156)) (h : 128 < (l.getD 21 0).toNat) : recErr l = 7 := by
  unfold recErr
  rw [if_neg (by simp [hl, hk]), if_neg (by simp [hs]), if_neg]
  rintro ⟨_, he⟩
  have h1 := recBytes_21 (readS l)
  rw [he] at h1
  have h2 : (readS l).init.length ≤ 128 := by simp only [readS, List.length_take]; omega
  rw [h1] at h
  simp at h
  omega

def RParseEnd (l : List UInt8) (w : World) (e : Ending) (w' : World) : Prop := ∃ iv, e = .returned (.tuple #[.agg (refCells (recGot l) iv), .int .i64 (recErr l : Nat)]) ∧ (ownR iv (recGot l).init * all w).on w' ∧ Str w w'
abbrev zcr : Array Value := #[.int .u32 0, .int .u32 0, .int .u32 0, .int .u32 0, .int .u32 0, .int .u8 0, nilV]
theorem zcr_eq : refCells zeroS nilV = zcr := by simp [refCells, zeroS, vb]
theorem zcr_one : zcr.all (·.oneCell') = true := by simp [Value.oneCell']
theorem zcr_size (s : RecS) (v : Value) : zcr.size = (refCells s v).size := (show zcr.size = 7 from rfl).trans (show (refCells s v).size = 7 from rfl).symm
theorem RParseEnd.err {l : List UInt8} {w w' : World} {z : Nat} (he : recErr l = z) (hz : z ≠ 0) (hb : Below w.heap.size w w') (z' : Int) (hz' : z' = (z : Nat)) : RParseEnd l w (.returned (.tuple #[.agg zcr, .int .i64 z'])) w' := by
  refine ⟨nilV, ?_, ?_, Str.below hb⟩
  · unfold recGot
    rw [he, if_neg hz, zcr_eq, hz']
  · unfold recGot
    rw [he, if_neg hz]
    exact own_nil _ _ ((on_all w).below hb)

end Go.Proofs.Ytgkofpfjbjnhfaa
