/- settings: no flash; the chapter's example. -/
import Derived.Test.YtjmgnfpcieofkaaSet5
import Derived.Test.YtjmgnfpcieofkaaSetFacts
import Derived.Test.YtjmgnfpcieofkaaFlashNils
namespace Go.Proofs.Ytjmgnfpcieofkaa
open Go.ChangeShapes Go.WideShapes Go.ChangeAt Go.RowKit
set_option linter.unusedVariables false
set_option linter.unusedSimpArgs false

set_option maxRecDepth 100000 in
set_option maxHeartbeats 8000000 in
theorem newest_nil (w : World) : Calls Try.prog 53 #[fnil] w (NewEnd (zeroS, 0, 1) w) := by
  have hus := Try.underlying107
  have hz := st_hz
  have h0 := (on_all w).alloc (.cells (stCells zeroS nilV 0) 107)
  have s0 := (Str.refl w).alloc (.cells (stCells zeroS nilV 0) 107)
  have H0 := hide h0
  have S0 := hide s0
  have hS := size_nil 0 0 (w.alloc (.cells (stCells zeroS nilV 0) 107))
  have gR := on_blk_mul h0
  clear h0 s0
  have Ho := hide (st_one (s := zeroS) (iv := nilV) ⟨_, _, _, rfl⟩ 0)
  have Hs := hide (st_info zeroS nilV 0)
  generalize hZ : stCells zeroS nilV 0 = Z at *
  have HZ := hide hZ
  clear hZ
  go_enter Try.func53, Try.ntmps53
  go_wp2_with fail
  refine hS.mono ?_
  clear hS
  rintro e w1 ⟨rfl, rfl⟩
  go_wp2_with (first
    | (refine wpList_build_st0 rfl rfl ?_; rw [HZ.out])
    | (refine wpList_store_row rfl _ _ _ rfl w.heap.size Z rfl rfl _ _ gR Hs.out rfl Ho.out ?_))
  refine bodyPost_ret (v := .tuple #[.agg Z, .int .i64 1]) (results_cell_row_tmp Try.results53 _ _ w.heap.size _ Z (0, 0) _ rfl (setRow_heap_same _ _ _ _ _ _ gR) hus rfl Hs.out (.int .i64 1) rfl) rfl ?_
  refine ⟨nilV, by rw [← HZ.out]; rfl, own_nil _ _ (H0.out.setRow _).right, S0.out.setRow _ _⟩
set_option maxRecDepth 100000 in
set_option maxHeartbeats 8000000 in
theorem save_nil (r : RecS) (ai : Option Addr) (n c : Nat) (w : World) :
    Calls Try.prog 15 #[fnil, .agg (recCells r (.slice ai n c))] w fun e w' => e = .returned (.tuple #[.agg (recCells zeroS nilV), .int .i64 1]) ∧ (all w).on w' ∧ Str w w' := by
  have hus := Try.underlying107
  have hur := Try.underlying35
  have hz := rc_hz
  have hzs := st_hz
  have h0 := ((on_all w).alloc (.cells (recCells r (.slice ai n c)) 35)).alloc (.cells (recCells zeroS nilV) 35)
  have s0 := ((Str.refl w).alloc (.cells (recCells r (.slice ai n c)) 35)).alloc (.cells (recCells zeroS nilV) 35)
  simp only [World.size_alloc] at h0
  have hN := newest_nil ((w.alloc (.cells (recCells r (.slice ai n c)) 35)).alloc (.cells (recCells zeroS nilV) 35))
  have H0 := hide h0
  have S0 := hide s0
  clear h0 s0
  go_enter Try.func15, Try.ntmps15
  go_wp2_with fail
  generalize (w.alloc (.cells (recCells r (.slice ai n c)) 35)).alloc (.cells (recCells zeroS nilV) 35) = w0 at *
  refine hN.mono ?_
  clear hN
  rintro e w1 ⟨iv1, rfl, ho, hs⟩
  have HoS := hide (st_one (s := zeroS) (own_slice ho) 0)
  have HsS := hide (st_info zeroS iv1 0)
  have h1 := ((on_all_to ho H0.out).right.alloc (.cells (stCells zeroS nilV 0) 107))
  have gN := on_blk_mul h1
  have h2 := h1.setRow (stCells zeroS iv1 0)
  have gZ := on_blk_mul h2.right
  have H2 := hide (h2.right.setRow (recCells zeroS nilV)).right.right
  have S2 := hide ((((S0.out.trans hs).alloc (.cells (stCells zeroS nilV 0) 107)).setRow w1.heap.size (stCells zeroS iv1 0)).setRow (w.heap.size + 1) (recCells zeroS nilV))
  have HoZ := hide (rc_one (s := zeroS) (iv := nilV) ⟨_, _, _, rfl⟩)
  have HsZ := hide (rc_info zeroS nilV)
  clear ho hs h1 h2 H0 S0
  rw [show ((1 : Nat) : Int) = 1 from rfl]
  go_wp2_with (first
    | (refine wpList_store_row rfl _ _ _ rfl w1.heap.size (stCells zeroS iv1 0) rfl rfl _ _ gN HsS.out rfl HoS.out ?_; clear gN)
    | (refine wpList_build_rc0 rfl rfl ?_)
    | (refine wpList_store_row rfl _ _ _ rfl (w.heap.size + 1) (recCells zeroS nilV) rfl rfl _ _ gZ HsZ.out rfl HoZ.out ?_))
  refine bodyPost_ret (v := .tuple #[.agg (recCells zeroS nilV), .int .i64 1]) (results_cell_row_tmp Try.results15 _ _ (w.heap.size + 1) _ (recCells zeroS nilV) (0, 0) _ rfl (setRow_heap_same _ _ _ _ _ _ gZ) hur rfl HsZ.out (.int .i64 1) rfl) rfl ?_
  exact ⟨rfl, H2.out, S2.out⟩
theorem load_nil (w : World) : Calls Try.prog 18 #[fnil] w (LoadEnd (zeroS, 0, 1) w) := load_of fnil (zeroS, 0, 1) w (newest_nil _)

theorem rc_build7 (w : World) : (Instr.build 35 #[(1, .int .u32 7)]).run Try.prog w = .ok (.agg (recCells fl7 nilV)) w := by kernel_rfl
theorem wpList_build_fl7 {ops : Array Oper} {rest : List Oper} {o : Oper} {a : Act} {w : World} {Q : Exit → Act → World → Prop} (hgd : o.guard = Option.none) (ho : o.op = .build 35 #[(1, .const (.int .u32 7))])
    (hk : wpList Try.prog ops Q rest (a.put o.dst (.agg (recCells fl7 nilV))) w) : wpList Try.prog ops Q (o :: rest) a w := by
  have hr : (execOp a.eval o).run Try.prog w = .ok (.value (.agg (recCells fl7 nilV))) w := by
    unfold execOp
    rw [ho]
    simp only [List.map_toArray, List.map_cons, List.map_nil]
    rw [Sem.run_bind, show a.eval (.const (.int .u32 7)) = .int .u32 7 from rfl, rc_build7]
    rfl
  exact wpList_plain hgd fun _ hK => by
    unfold Oper.wp
    simp only [hr]
    exact hK _ _ hk

set_option maxRecDepth 100000 in
set_option maxHeartbeats 8000000 in
theorem lives14_any (w : World) : Calls Try.prog 8 #[] w fun e w' => e = .returned (.bool true) ∧ Below w.heap.size w w' := by
  have hur := Try.underlying35
  have hz := rc_hz
  have f1 := live_save
  have f2 := live_load
  have fitS := FlS.Fit.save (FlS.Fit.new 2 (by omega) (by omega)) fl7
  have hnew := new_any 2 (by omega) (by omega) w
  obtain ⟨s0, hs0⟩ : ∃ s, s = FlS.new 2 := ⟨_, rfl⟩
  have fit0 : s0.Fit 0 := by rw [hs0]; exact FlS.Fit.new 2 (by omega) (by omega)
  rw [← hs0] at f1 f2 fitS
  have Hs0 := hide hs0
  have okf : fl7.Ok := ⟨by decide, by decide, by decide, by decide, by decide, by decide⟩
  clear hs0
  go_enter Try.func8, Try.ntmps8
  go_wp2_with fail
  refine hnew.mono ?_
  clear hnew
  rintro e w1 ⟨v, rfl, ho, hs⟩
  obtain ⟨p, rfl, ho2⟩ := newQ.out ho
  rw [← Hs0.out] at ho2
  have hS := save_any p s0 _ 0 fit0 (by omega) fl7 nilV okf (fun W _ => IsBytes.nil W) w1 ho2
  have Hs1 := hide hs
  obtain ⟨⟨st, R1, er1⟩, hX⟩ : ∃ x, x = s0.save fl7 := ⟨_, rfl⟩
  rw [← hX] at hS f1 f2 fitS
  obtain ⟨rfl, hq1⟩ := f1
  obtain ⟨⟨R2, pg, er2⟩, hL⟩ : ∃ x, x = st.load := ⟨_, rfl⟩
  simp only at f2 hq1 fitS
  have HX := hide hL
  rw [← hL] at f2
  obtain ⟨rfl, hq2, hq3, rfl⟩ := f2
  have Hq1 := hide hq1
  have Hq2 := hide hq2
  have Hq3 := hide hq3
  have Hfit := hide fitS
  clear ho ho2 hs hX hL hq1 hq2 hq3 fitS fit0 okf Hs0
  go_wp2_with (refine wpList_build_fl7 rfl rfl ?_)
  refine hS.mono ?_
  clear hS
  rintro e w2 ⟨iv1, rfl, ho, hs⟩
  have HoA := hide (rc_one (s := R1) (own_slice ho))
  have HsA := hide (rc_info R1 iv1)
  have h1 := ho.right.alloc (.cells (recCells zeroS nilV) 35)
  have gA := on_blk_mul h1
  have h2 := h1.setRow (recCells R1 iv1)
  have s2 := (((Hs1.out.trans hs).alloc (.cells (recCells zeroS nilV) 35)).setRow w2.heap.size (recCells R1 iv1))
  have H2 := hide h2
  have S2 := hide s2
  have hL := load_any p st _ _ (show (Flash p st * (blk w2.heap.size (.cells (recCells R1 iv1) 35 (0, 0)) * all w)).on _ from by rw [SP.mul_left_comm]; exact h2) Hfit.out.ok
  rw [← HX.out] at hL
  clear ho hs h1 h2 s2
  rw [show ((0 : Nat) : Int) = 0 from rfl]
  dsimp only
  go_wp2_with (refine wpList_store_row rfl _ _ _ rfl w2.heap.size (recCells R1 iv1) rfl rfl _ _ gA HsA.out rfl HoA.out ?_; clear gA)
  generalize (w2.alloc (.cells (recCells zeroS nilV) 35)).setRow w2.heap.size (recCells R1 iv1) = w3 at *
  generalize w2.heap.size = gA at *
  refine hL.mono ?_
  clear hL
  rintro e w4 ⟨iv2, rfl, ho, hs⟩
  have HoB := hide (rc_one (s := R2) (own_slice ho))
  have HsB := hide (rc_info R2 iv2)
  have h1 := (on_all_to ho H2.out).right.alloc (.cells (recCells zeroS nilV) 35)
  have gB := on_blk_mul h1
  have h2 := h1.setRow (recCells R2 iv2)
  have s2 := (((S2.out.trans hs).alloc (.cells (recCells zeroS nilV) 35)).setRow w4.heap.size (recCells R2 iv2))
  have cA : ((w4.alloc (.cells (recCells zeroS nilV) 35)).setRow w4.heap.size (recCells R2 iv2)).cell? ⟨gA, 0, Option.none⟩ = some (u32v 1) := by rw [← Hq1.out]; exact cell_of_row _ gA 0 _ _ _ (on_blk_mul h2.right)
  have cB : ((w4.alloc (.cells (recCells zeroS nilV) 35)).setRow w4.heap.size (recCells R2 iv2)).cell? ⟨w4.heap.size, 0, Option.none⟩ = some (u32v 1) := by rw [← Hq2.out]; exact cell_of_row _ w4.heap.size 0 _ _ _ (on_blk_mul h2)
  have cC : ((w4.alloc (.cells (recCells zeroS nilV) 35)).setRow w4.heap.size (recCells R2 iv2)).cell? ⟨w4.heap.size, 1, Option.none⟩ = some (u32v 7) := by rw [← Hq3.out]; exact cell_of_row _ w4.heap.size 1 _ _ _ (on_blk_mul h2)
  have HB := hide (all_below h2.right.right.right s2)
  clear ho hs h1 h2 s2 H2 S2
  rw [show ((0 : Nat) : Int) = 0 from rfl]
  dsimp only
  go_wp2_with (refine wpList_store_row rfl _ _ _ rfl w4.heap.size (recCells R2 iv2) rfl rfl _ _ gB HsB.out rfl HoB.out ?_; clear gB)
  go_ret
  exact ⟨rfl, HB.out⟩
end Go.Proofs.Ytjmgnfpcieofkaa
