/- object: no machine; a new one on a store in memory; an answer to Ping. -/
import Derived.Test.YtgkofpfjbjnhfaaGreatDoorOb1
namespace Go.Proofs.YtgkofpfjbjnhfaaGreatDoor
open Go.ChangeShapes Go.WideShapes Go.ChangeAt Go.RowKit
set_option linter.unusedVariables false
set_option linter.unusedSimpArgs false

theorem wpList_eql_iface {P : Program} {ops : Array Oper} {rest : List Oper} {o : Oper} {a : Act} {w : World} {Q : Exit → Act → World → Prop} (hgd : o.guard = Option.none) (T rt : TypeId) (x y : Operand) (ho : o.op = .binOp .eql T x y rt) (v : Value) (hx : a.eval x = v) (hy : a.eval y = .nilIface)
    (hg : ∀ x y, (eqGuard .eql T x y v .nilIface).run P w = .ok () w) (he : (binOp .eql T v .nilIface).run P w = .ok (.bool false) w) (hk : wpList P ops Q rest (a.put o.dst (.bool false)) w) : wpList P ops Q (o :: rest) a w := by
  have hr : (execOp a.eval o).run P w = .ok (.value (.bool false)) w := by
    unfold execOp
    rw [ho]
    simp only [hx, hy, Sem.run_bind, hg, Result.andThen_ok, he]
    rfl
  exact wpList_plain hgd fun _ hK => by
    unfold Oper.wp
    simp only [hr]
    exact hK _ _ hk
theorem mem_gd (w : World) (a : Addr) (x y : Operand) : (eqGuard .eql 54 x y (.iface 47 (.pointer (some a))) .nilIface).run Tryz.prog w = .ok () w := by kernel_rfl
set_option maxRecDepth 100000 in
set_option maxHeartbeats 8000000 in
theorem onew_mem (b : Nat) (F : SP) (w : World) (h : (blk b (.cells #[nV, nV] 49 (0, 0)) * F).on w) (hL : Lens w) :
    Calls Tryz.prog 7 #[.iface 47 (.pointer (some ⟨b, 0, Option.none⟩)), .agg zLim] w fun e w' => (∃ p, e = .returned (.tuple #[.pointer (some ⟨p, 0, Option.none⟩), .int .i64 0])) ∧ Below w.heap.size w w' := by
  have hul := Tryz.underlying45
  have hls : (Tryz.prog.info? 45).map (·.size) = some zLim.size := by kernel_rfl
  have hr := heap_alloc_new w (.cells zLim 45)
  have h1 := (h.alloc' (.cells zLim 45)).alloc (.cells (mC b) 59)
  have hB : Below w.heap.size w ((w.alloc (.cells zLim 45)).alloc (.cells (mC b) 59)) := ((Below.refl _ _).alloc (Nat.le_refl _) _).alloc (by simp) _
  rw [World.size_alloc] at h1
  have hE := resume_empty (w.heap.size + 1) b F ((w.alloc (.cells zLim 45)).alloc (.cells (mC b) 59)) h1 (hL.below hB)
  have HB := hide hB
  clear h h1 hB hL
  generalize hLm : zLim = lm at *
  generalize hM : mC b = M at *
  have HM := hide hM
  have HLmE := hide hLm
  have Hbm : Hid (∀ X, (Instr.build 59 #[(0, .iface 47 (.pointer (some ⟨b, 0, Option.none⟩))), (1, .agg lm)]).run Tryz.prog X = .ok (.agg M) X) := hide fun X => by rw [← HLmE.out, ← HM.out]; exact build_m b X
  have hul' := hide hul
  have hls' := hide hls
  have hr' := hide hr
  clear hLm hM hls hr hul
  go_enter Tryz.func7, Tryz.ntmps7
  go_wp2_with (first
    | (refine wpList_eql_iface rfl _ _ _ _ rfl (.iface 47 (.pointer (some ⟨b, 0, Option.none⟩))) rfl rfl (fun x y => mem_gd _ _ x y) (mem_eq _ _) ?_)
    | (refine wpList_load_row rfl _ _ rfl w.heap.size rfl _ lm _ _ hr'.out hul'.out rfl hls'.out ?_)
    | (refine wpList_build_two rfl 59 0 1 _ _ rfl (.iface 47 (.pointer (some ⟨b, 0, Option.none⟩))) (.agg lm) rfl rfl M (Hbm.out _) ?_))
  generalize (w.alloc (.cells lm 45)).alloc (.cells M 59) = w1 at *
  refine hE.mono ?_
  clear hE
  rintro e w2 ⟨⟨v, rfl⟩, hb⟩
  have HB2 := hide (HB.out.trans (hb.mono HB.out.size))
  clear hb
  go_wp2_with fail
  go_ret2
  exact ⟨⟨_, rfl⟩, HB2.out⟩

set_option maxRecDepth 100000 in
set_option maxHeartbeats 4000000 in
theorem onew_nil (w : World) :
    Calls Tryz.prog 7 #[.nilIface, .agg zLim] w fun e w' => e = .returned (.tuple #[.pointer Option.none, .int .i64 1]) ∧ Below w.heap.size w w' := by
  have hme := nil_eq
  have HB : Hid (Below w.heap.size w (w.alloc (.cells zLim 45))) := hide ((Below.refl _ _).alloc (Nat.le_refl _) _)
  generalize zLim = lm at *
  go_enter Tryz.func7, Tryz.ntmps7
  go_wp2_with fail
  go_ret2
  exact ⟨rfl, HB.out⟩

set_option maxRecDepth 100000 in
set_option maxHeartbeats 4000000 in
theorem ocomplete_nil (w : World) :
    Calls Tryz.prog 6 #[.pointer Option.none] w fun e w' => e = .returned (.tuple #[.agg (pkC zP), .bool false]) ∧ Below w.heap.size w w' := by
  have hup := Tryz.underlying37
  have hz := pk_hz
  have hbz := build_pkz
  have hzs : (Tryz.prog.info? 37).map (·.size) = some (pkC zP).size := by kernel_rfl
  have hzo := pkC_one zP
  have hr := heap_alloc_new w (.cells (pkC zP) 37)
  have HB : Hid (Below w.heap.size w ((w.alloc (.cells (pkC zP) 37)).setRow w.heap.size (pkC zP))) := hide (below_setRow ((Below.refl _ _).alloc (Nat.le_refl _) _) (Nat.le_refl _) _)
  generalize pkC zP = Z at *
  go_enter Tryz.func6, Tryz.ntmps6
  go_wp2_with (first
    | (refine wpList_store_row rfl _ _ _ rfl w.heap.size Z rfl rfl _ _ hr hzs rfl hzo ?_)
    | (refine wpList_build_eq rfl _ _ rfl Z (hbz _) ?_))
  refine bodyPost_ret (v := .tuple #[.agg Z, .bool false]) (results_cell_row_tmp Tryz.results6 _ _ w.heap.size _ Z (0, 0) _ rfl (setRow_heap_same _ _ _ _ _ _ hr) hup rfl hzs (.bool false) rfl) rfl ⟨rfl, HB.out⟩

abbrev rqC (op ty : UInt8) (sz : Nat) (dv : Value) : Array Value := #[vb op, vb ty, .int .u32 (sz : Nat), dv]
set_option maxRecDepth 100000 in
set_option maxHeartbeats 4000000 in
theorem oask_nil (op ty : UInt8) (sz : Nat) (a : Option Addr) (n c : Nat) (w : World) :
    Calls Tryz.prog 5 #[.pointer Option.none, .agg (rqC op ty sz (.slice a n c))] w fun e w' => e = .returned (.tuple #[.agg (rsC op 10 nV), .bool true]) ∧ Below w.heap.size w w' := by
  have hu := Tryz.underlying29
  have hz := zr_hz
  have hs : (Tryz.prog.info? 29).map (·.size) = some 3 := by kernel_rfl
  have hone : (rsC op 10 nV).all (·.oneCell') = true := by simp [Value.oneCell', vb]
  have h1 := ((on_all w).alloc (.cells (rqC op ty sz (.slice a n c)) 25)).alloc (.cells #[.int .u8 0, .int .u8 0, nV] 29)
  rw [World.size_alloc] at h1
  have HB1 : Hid (Below w.heap.size w ((w.alloc (.cells (rqC op ty sz (.slice a n c)) 25)).alloc (.cells #[.int .u8 0, .int .u8 0, nV] 29))) := hide (((Below.refl _ _).alloc (Nat.le_refl _) _).alloc (by simp) _)
  have hg := on_blk_mul h1.right
  have c0 := cell_of_row _ _ 0 _ _ _ hg
  have hE := oanswer_any op 10 Option.none 0 0 ((w.alloc (.cells (rqC op ty sz (.slice a n c)) 25)).alloc (.cells #[.int .u8 0, .int .u8 0, nV] 29))
  have H1 := hide h1
  clear h1 hg
  have c0' : ((w.alloc (.cells (rqC op ty sz (.slice a n c)) 25)).alloc (.cells #[.int .u8 0, .int .u8 0, nV] 29)).cell? ⟨w.heap.size, 0, Option.none⟩ = some (vb op) := c0
  clear c0
  go_enter Tryz.func5, Tryz.ntmps5
  go_wp2_with fail
  generalize (w.alloc (.cells (rqC op ty sz (.slice a n c)) 25)).alloc (.cells #[.int .u8 0, .int .u8 0, nV] 29) = w1 at *
  refine hE.mono ?_
  clear hE
  rintro e w2 ⟨rfl, hb⟩
  have hr2 := on_blk_mul (H1.out.below hb)
  have HB2 := hide (HB1.out.trans (hb.mono HB1.out.size))
  clear hb
  go_wp2_with (refine wpList_store_row rfl _ _ _ rfl (w.heap.size + 1) (rsC op 10 nV) rfl rfl _ _ hr2 hs rfl hone ?_)
  refine bodyPost_ret (v := .tuple #[.agg (rsC op 10 nV), .bool true]) (results_cell_row_tmp Tryz.results5 _ _ (w.heap.size + 1) _ (rsC op 10 nV) (0, 0) _ rfl (setRow_heap_same _ _ _ _ _ _ hr2) hu rfl hs (.bool true) rfl) rfl ⟨rfl, below_setRow HB2.out (by omega) _⟩
end Go.Proofs.YtgkofpfjbjnhfaaGreatDoor
