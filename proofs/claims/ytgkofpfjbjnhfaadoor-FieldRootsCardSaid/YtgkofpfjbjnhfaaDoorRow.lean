/- Rows in memory: loads of a whole row, in a region and behind a guard. No Go function is spoken of. -/
import Derived.Test.YtgkofpfjbjnhfaaDoorFresh
namespace Go.Proofs.YtgkofpfjbjnhfaaDoor
open Go.RowKit
set_option linter.unusedVariables false
variable {P : Program}
theorem OpOk.load_row {o : Oper} {ev : Operand → Value} {W : World} {R : Value → World → Prop} (ty : TypeId) (x : Operand) (ho : o.op = .load ty x)
    (g : Nat) (hx : ev x = .pointer (some ⟨g, 0, Option.none⟩)) (t : TypeId) (cs : Array Value) (fr : Nat × Nat) (d : TypeDesc) (hg : W.heap[g]? = some (.cells cs t fr))
    (hu : P.underlying ty = some d) (hd : (match d with | .struct _ | .array _ _ => true | _ => false) = true) (hi : (P.info? ty).map (·.size) = some cs.size)
    (h : R (.agg cs) W) : OpOk P o ev W R :=
  OpOk.run (v := .agg cs) (W' := W) (by
    unfold execOp
    simp only [ho, hx, Instr.loadAt, Instr.sureAddr, Sem.run_bind, Sem.run_pure, Result.andThen_ok, run_loadVar_row W g t ty cs fr d hg hu hd hi, Sem.run_pure, Result.andThen_ok]) h
end Go.Proofs.YtgkofpfjbjnhfaaDoor
