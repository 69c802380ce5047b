/- object: no machine; a new one on a store in memory; an answer to Ping. -/
import Derived.Test.YtgmpmlneoiagdaaGreatDoorPk7
namespace Go.Proofs.YtgmpmlneoiagdaaGreatDoor
open Go.ChangeShapes Go.WideShapes Go.ChangeAt Go.RowKit
set_option linter.unusedVariables false
set_option linter.unusedSimpArgs false

abbrev nV : Value := .slice Option.none 0 0
abbrev rsC (op res : UInt8) (dv : Value) : Array Value := #[vb op, vb res, dv]
theorem build_pkz (w : World) : (Instr.build 100 #[]).run Tryz.prog w = .ok (.agg (pkC zP)) w := by kernel_rfl
theorem zr_hz (w : World) : (zeroValue 93).run Tryz.prog w = .ok (.agg #[.int .u8 0, .int .u8 0, nV]) w := by kernel_rfl
theorem pparse_nil : pparse [] = (zP, 7) := rfl
theorem wpList_build_eq {P : Program} {ops : Array Oper} {rest : List Oper} {o : Oper} {a : Act} {w : World} {Q : Exit → Act → World → Prop} (hgd : o.guard = Option.none) (T : TypeId) (parts : Array (Nat × Operand)) (ho : o.op = .build T parts) (cs : Array Value)
    (hb : (Instr.build T (parts.map fun (i, x) => (i, a.eval x))).run P w = .ok (.agg cs) w) (hk : wpList P ops Q rest (a.put o.dst (.agg cs)) w) : wpList P ops Q (o :: rest) a w := by
  have hr : (execOp a.eval o).run P w = .ok (.value (.agg cs)) w := by
    unfold execOp
    rw [ho]
    simp only
    rw [Sem.run_bind, hb]
    rfl
  exact wpList_plain hgd fun _ hK => by
    unfold Oper.wp
    simp only [hr]
    exact hK _ _ hk

theorem wpList_build_two {P : Program} {ops : Array Oper} {rest : List Oper} {o : Oper} {a : Act} {w : World} {Q : Exit → Act → World → Prop} (hgd : o.guard = Option.none) (T : TypeId) (i j : Nat) (x y : Operand) (ho : o.op = .build T #[(i, x), (j, y)]) (vx vy : Value) (hx : a.eval x = vx) (hy : a.eval y = vy) (cs : Array Value)
    (hb : (Instr.build T #[(i, vx), (j, vy)]).run P w = .ok (.agg cs) w) (hk : wpList P ops Q rest (a.put o.dst (.agg cs)) w) : wpList P ops Q (o :: rest) a w := by
  have hr : (execOp a.eval o).run P w = .ok (.value (.agg cs)) w := by
    unfold execOp
    rw [ho]
    simp only [List.map_toArray, List.map_cons, List.map_nil, hx, hy]
    rw [Sem.run_bind, hb]
    rfl
  exact wpList_plain hgd fun _ hK => by
    unfold Oper.wp
    simp only [hr]
    exact hK _ _ hk
set_option maxRecDepth 100000 in
set_option maxHeartbeats 4000000 in
theorem oanswer_any (op res : UInt8) (a : Option Addr) (n c : Nat) (w : World) :
    Calls Tryz.prog 76 #[vb op, vb res, .slice a n c] w fun e w' => e = .returned (.agg (rsC op res (.slice a n c))) ∧ Below w.heap.size w w' := by
  have hu := Tryz.underlying93
  have hz := zr_hz
  have hs : (Tryz.prog.info? 93).map (·.size) = some 3 := by kernel_rfl
  have hr := heap_alloc_new w (.cells #[.int .u8 0, .int .u8 0, nV] 93)
  have hone : (rsC op res (.slice a n c)).all (·.oneCell') = true := by simp [Value.oneCell', vb]
  go_enter Tryz.func76, Tryz.ntmps76
  go_wp2_with (refine wpList_store_row rfl _ _ _ rfl w.heap.size (rsC op res (.slice a n c)) rfl rfl _ _ hr hs rfl hone ?_)
  refine bodyPost_ret (v := .agg (rsC op res (.slice a n c))) (results_cell_row Tryz.results76 _ _ w.heap.size _ (rsC op res (.slice a n c)) (0, 0) _ rfl (setRow_heap_same _ _ _ _ _ _ hr) hu rfl hs) rfl ⟨rfl, below_setRow ((Below.refl _ _).alloc (Nat.le_refl _) _) (Nat.le_refl _) _⟩

end Go.Proofs.YtgmpmlneoiagdaaGreatDoor
