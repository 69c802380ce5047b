/- object: no machine; a new one on a store in memory; an answer to Ping. -/
import Derived.Test.YtgmpmlneoiagdaaGreatDoorOb1
namespace Go.Proofs.YtgmpmlneoiagdaaGreatDoor
open Go.ChangeShapes Go.WideShapes Go.ChangeAt Go.RowKit
set_option linter.unusedVariables false
set_option linter.unusedSimpArgs false

theorem wpList_eql_iface {P : Program} {ops : Array Oper} {rest : List Oper} {o : Oper} {a : Act} {w : World} {Q : Exit → Act → World → Prop} (hgd : o.guard = Option.none) (T rt : TypeId) (x y : Operand) (ho : o.op = .binOp .eql T x y rt) (v : Value) (hx : a.eval x = v) (hy : a.eval y = .nilIface)
    (hg : ∀ x y, (eqGuard .eql T x y v .nilIface).run P w = .ok () w) (he : (binOp .eql T v .nilIface).run P w = .ok (.bool false) w) (hk : wpList P ops Q rest (a.put o.dst (.bool false)) w) : wpList P ops Q (o :: rest) a w := by
  have hr : (execOp a.eval o).run P w = .ok (.value (.bool false)) w := by
    unfold execOp
    rw [ho]
    simp only [hx, hy, Sem.run_bind, hg, Result.andThen_ok, he]
    rfl
  exact wpList_plain hgd fun _ hK => by
    unfold Oper.wp
    simp only [hr]
    exact hK _ _ hk
abbrev rqC (op ty : UInt8) (sz : Nat) (dv : Value) : Array Value := #[vb op, vb ty, .int .u32 (sz : Nat), dv]
end Go.Proofs.YtgmpmlneoiagdaaGreatDoor
