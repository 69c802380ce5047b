/- scalar: the order, and a number as bytes. -/
import Derived.Test.YtgkofpfjbjnhfaaDoorSc5
namespace Go.Proofs.YtgkofpfjbjnhfaaDoor
open Go.ChangeShapes Go.WideShapes Go.ChangeAt Go.RowKit
set_option linter.unusedVariables false
set_option linter.unusedSimpArgs false

theorem q4_four (n : Nat) : q4 n = #[lv (limb n 0), lv (limb n 1), lv (limb n 2), lv (limb n 3)] := rfl

set_option maxHeartbeats 4000000 in
theorem order_any (w : World) (hO : TabO w) :
    Calls Tryd.prog 63 #[] w fun e w' => e = .returned (.agg (q4 O6)) ∧ Below w.heap.size w w' := by
  have hu := Tryd.underlying58
  have hz : ∀ w, (zeroValue 58).run Tryd.prog w = .ok (.agg (q4 0)) w := fun w => by rw [qz4]; kernel_rfl
  have Hs : Hid (∀ n, (Tryd.prog.info? 58).map (·.size) = some (q4 n).size) := hide fun n => by rw [q4_size]; kernel_rfl
  have hB := Below.alloc (Below.refl w.heap.size w) (Nat.le_refl _) (.cells (q4 0) 58 (0, 0))
  have hO2 := hO.below hB
  have c0 := hO2 0 (by decide)
  have c1 := hO2 1 (by decide)
  have c2 := hO2 2 (by decide)
  have c3 := hO2 3 (by decide)
  have gR : (w.alloc (.cells (q4 0) 58)).heap[w.heap.size]? = some (.cells (q4 0) 58 (0, 0)) := on_blk_mul ((on_all w).alloc (.cells (q4 0) 58))
  have HB := hide hB
  have hza : (q4 0).size = (q4 O6).size := by rw [q4_size, q4_size]
  have hone : (q4 O6).all (·.oneCell') = true := lvs_one _
  have HsR : Hid ((Tryd.prog.info? 58).map (·.size) = some (q4 O6).size) := hide (Hs.out _)
  have h4 := q4_four O6
  generalize limb O6 0 = x0 at *
  generalize limb O6 1 = x1 at *
  generalize limb O6 2 = x2 at *
  generalize limb O6 3 = x3 at *
  have H4 := hide h4
  clear h4 hO hO2 hB
  rw [H4.out] at hza hone HsR
  generalize q4 0 = Z4 at *
  go_enter Tryd.func63, Tryd.ntmps63
  go_wp2_with (refine wpList_store_row rfl _ _ _ rfl w.heap.size #[lv x0, lv x1, lv x2, lv x3] rfl rfl _ _ gR HsR.out hza hone ?_)
  refine bodyPost_ret (v := .agg #[lv x0, lv x1, lv x2, lv x3]) (results_cell_row Tryd.results63 _ _ w.heap.size _ #[lv x0, lv x1, lv x2, lv x3] (0, 0) _ rfl (setRow_heap_same _ _ _ _ _ _ gR) hu rfl HsR.out) rfl ⟨by rw [H4.out], below_setRow HB.out (by omega) _⟩
end Go.Proofs.YtgkofpfjbjnhfaaDoor
