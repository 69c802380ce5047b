/- Arrays of numbers: when two are equal. No Go function is spoken of. -/
import Derived.Test.YtbplbdnofobbiaaDoorGBase
import Derived.ChangeKeysEq
set_option linter.unusedVariables false
set_option linter.unusedSimpArgs false
set_option maxRecDepth 100000
set_option maxHeartbeats 8000000
namespace Go.Proofs.YtbplbdnofobbiaaDoor
open Go.RowKit
variable {P : Program}
theorem run_part_int (w : World) (e : TypeId) (k : IntKind) (he : P.underlying e = some (.int k)) (cs : Array Value) (i : Nat) (v : Value) (h : cs[i]? = some v) : (part e cs i).run P w = .ok v w := by
 have hagg : (isAgg e).run P w = .ok false w := by
  unfold isAgg
  rw [Sem.run_bind, run_underlying he w]
  simp
 simp [part, hagg, h]
theorem run_eq_int (w : World) (d : Nat) (e : TypeId) (k : IntKind) (he : P.underlying e = some (.int k)) (a b : Int) : (Op.equalIn (d + 1) e (.int k a) (.int k b)).run P w = .ok (a == b) w := by
 simp [Op.equalIn, run_underlying he]
theorem run_eq_items (w : World) (d : Nat) (e : TypeId) (k : IntKind) (he : P.underlying e = some (.int k)) (xa bs : List Int) : ∀ (is : List Nat), (∀ i ∈ is, i < xa.length ∧ i < bs.length) →
  (Op.eqItems (d + 1) e 1 (xa.map (Value.int k)).toArray (bs.map (Value.int k)).toArray is).run P w = .ok (decide (∀ i ∈ is, xa[i]? = bs[i]?)) w
 | [], _ => by simp [Op.eqItems]
 | i :: is, h => by
  obtain ⟨h1, h2⟩ := h i (by simp)
  have p1 := run_part_int (P := P) w e k he (xa.map (Value.int k)).toArray i (.int k xa[i]) (by simp [h1])
  have p2 := run_part_int (P := P) w e k he (bs.map (Value.int k)).toArray i (.int k bs[i]) (by simp [h2])
  have ih := run_eq_items w d e k he xa bs is (fun j hj => h j (by simp [hj]))
  simp only [Op.eqItems, Nat.mul_one, Sem.run_bind, p1, p2, Result.andThen_ok, run_eq_int w d e k he]
  by_cases hab : xa[i] = bs[i]
  ·have e1 : (xa[i] == bs[i]) = true := by rw [hab]; simp
   rw [e1]
   simp only [Bool.not_true, Bool.false_eq_true, if_false, ih]
   have : xa[i]? = bs[i]? := by rw [List.getElem?_eq_getElem h1, List.getElem?_eq_getElem h2, hab]
   simp [this]
  ·have e1 : (xa[i] == bs[i]) = false := by simpa using hab
   rw [e1]
   have : ¬xa[i]? = bs[i]? := by rw [List.getElem?_eq_getElem h1, List.getElem?_eq_getElem h2]; simpa using hab
   simp [this]
theorem run_eq_ints (w : World) (d : Nat) (t e : TypeId) (n : Nat) (k : IntKind) (ht : P.underlying t = some (.array n e)) (he : P.underlying e = some (.int k)) (hi : (P.info? e).map (·.size) = some 1) (xa bs : List Int) (ha : xa.length = n) (hb : bs.length = n) :
  (Op.equalIn (d + 2) t (.agg (xa.map (Value.int k)).toArray) (.agg (bs.map (Value.int k)).toArray)).run P w = .ok (decide (xa = bs)) w := by
 cases hq : P.info? e with
 | none => simp [hq] at hi
 | some inf =>
  have hc : P.cellsOf e = 1 := by simp [Program.cellsOf, hq] at hi ⊢; exact hi
  rw [run_equalIn_array w (d + 1) _ _ ht hq, hc, run_eq_items w d e k he xa bs _ (fun i hi => by have := List.mem_range.1 hi; omega)]
  congr 1
  apply decide_eq_decide.2
  constructor
  ·intro h
   apply List.ext_getElem?
   intro i
   rcases Nat.lt_or_ge i n with hin | hin
   ·exact h i (List.mem_range.2 hin)
   ·rw [List.getElem?_eq_none (by omega), List.getElem?_eq_none (by omega)]
  ·intro h i _
   rw [h]
end Go.Proofs.YtbplbdnofobbiaaDoor
