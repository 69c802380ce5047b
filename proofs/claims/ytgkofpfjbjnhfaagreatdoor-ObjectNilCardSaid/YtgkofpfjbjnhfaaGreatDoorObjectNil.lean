/- The law ObjectNil: no machine, and no store. -/
import Derived.Test.YtgkofpfjbjnhfaaGreatDoorOb2
import Derived.Test.YtgkofpfjbjnhfaaGreatDoorCards
import Derived.Test.YtgkofpfjbjnhfaaGreatDoorTie
import Derived.Deep.DeepHandedRow
import Derived.Lib.LaidTab
namespace Go.Proofs.YtgkofpfjbjnhfaaGreatDoor
open Go.ChangeShapes Go.WideShapes Go.ChangeAt Go.RowKit
set_option linter.unusedVariables false
set_option linter.unusedSimpArgs false

structure ReqS where
  op : UInt8
  type : UInt8
  size : Nat
  data : List UInt8
abbrev reqCells (q : ReqS) (dv : Value) : Array Value := #[vb q.op, vb q.type, n32v q.size, dv]
section
variable {H : Type} {enc : TypeId × Value → H} {w : World} {base : Nat} {spare : Nat → Bool} {held : Bool}
set_option maxRecDepth 100000 in
theorem open_req {v : Value} {d : DataW H} {p : List MemPlace} {r : _} {base' : Nat} (hv : Value.okWide Tryz.prog w r base' 25 v) (h : DataW.Trod enc Tryz.prog w base spare held 25 v d p) : ∃ q dv, v = .agg (reqCells q dv) ∧ q.size < 4294967296 ∧ IsBytes w dv q.data := by
  have hu := Tryz.underlying25
  have h8 := Tryz.underlying5
  have h32 := Tryz.underlying22
  have hs8 := Tryz.underlying23
  have c8 : Tryz.prog.cellsOf 5 = 1 := by kernel_rfl
  have c32 : Tryz.prog.cellsOf 22 = 1 := by kernel_rfl
  have cs8 : Tryz.prog.cellsOf 23 = 1 := by kernel_rfl
  have c4 : Tryz.prog.cellsOf 25 = 4 := by kernel_rfl
  obtain ⟨cs, rfl, hsz⟩ := okWide_struct hu hv
  obtain ⟨fuel, hf⟩ := h
  obtain ⟨xs, n, rfl, _, hl, hxl, hfs⟩ := DataW.trod_struct hu hf
  rw [c4] at hsz
  match xs, hxl with
  | [x0, x1, x2, x3], _ =>
    have g0 := hfs 0 _ rfl
    have g1 := hfs 1 _ rfl
    have g2 := hfs 2 _ rfl
    have g3 := hfs 3 _ rfl
    simp only [Value.cells] at g0 g1 g2 g3
    obtain ⟨n0, e0⟩ := trod_n8 h8 g0
    obtain ⟨n1, e1⟩ := trod_n8 h8 g1
    obtain ⟨n2, b2, e2⟩ := trod_n32 h32 g2
    obtain ⟨iv, l, e3, hb, _⟩ := trod_bytes hs8 h8 c8 g3
    refine ⟨⟨n0, n1, n2, l⟩, iv, ?_, b2, hb⟩
    clear g0 g1 g2 g3 hfs hf hl hv
    obtain ⟨csl⟩ := cs
    match csl, hsz with
    | [y0, y1, y2, y3], _ =>
      simp only [List.drop_succ_cons, List.drop_zero] at e0 e1 e2 e3
      change List.take (Tryz.prog.cellsOf 5) _ = _ at e0
      rw [c8] at e0
      change List.take (Tryz.prog.cellsOf 5) _ = _ at e1
      rw [c8] at e1
      change List.take (Tryz.prog.cellsOf 22) _ = _ at e2
      rw [c32] at e2
      change List.take (Tryz.prog.cellsOf 23) _ = _ at e3
      rw [cs8] at e3
      simp at e0 e1 e2 e3
      subst e0 e1 e2 e3
      rfl
end
theorem zlim_lit : zLim = #[.int .u8 0, .int .u8 0, .int .u8 0, .int .u8 0, .int .u8 0, .int .u8 0, .int .u8 0, .int .u8 0, .int .u8 0, .int .u8 0, .int .u8 0, .int .u8 0, .int .u8 0, .int .u8 0, .int .u8 0, .int .u8 0, .int .u8 0, .int .u8 0, .int .u8 0, .int .u8 0, .int .u8 0, .int .u8 0, .int .u8 0, .int .u8 0, .int .u8 0, .int .u8 0, .int .u8 0, .int .u8 0, .int .u8 0, .int .u8 0, .int .u8 0, .int .u8 0, .int .u32 0, .int .u8 0, .int .u32 0, .int .u32 0] := by kernel_rfl
theorem build_rq (w : World) : (Instr.build 25 #[(0, .int .u8 9), (1, .int .u8 7)]).run Tryz.prog w = .ok (.agg (rqC 9 7 0 nV)) w := by kernel_rfl
theorem lay_setRow {w : World} {c : Nat} {l : List Value} (h : Lay w (some ⟨c, 0, Option.none⟩) l) (g : Nat) (cs : Array Value) (hne : c ≠ g) : Lay (w.setRow g cs) (some ⟨c, 0, Option.none⟩) l := by
  intro i v hv
  refine ⟨c, 0, rfl, ?_⟩
  have h1 := Lay.cell h i hv
  have h2 := setRow_other w g c cs hne
  simp only [World.cell?, h2] at h1 ⊢
  exact h1
set_option maxRecDepth 100000 in
set_option maxHeartbeats 8000000 in
theorem orespond_ping (p : Nat) (w : World) :
    Calls Tryz.prog 10 #[.pointer (some ⟨p, 0, Option.none⟩), .agg (rqC 9 7 0 nV)] w fun e w' => ∃ c, e = .returned (.agg (rsC 9 1 (.slice (some ⟨c, 0, Option.none⟩) 1 1))) ∧ Lay w' (some ⟨c, 0, Option.none⟩) [vb 7] ∧ w.heap.size ≤ c ∧ Below w.heap.size w w' := by
  have hu := Tryz.underlying29
  have hz := zr_hz
  have hs : (Tryz.prog.info? 29).map (·.size) = some 3 := by kernel_rfl
  have h1 := ((on_all w).alloc (.cells (rqC 9 7 0 nV) 25)).alloc (.cells #[.int .u8 0, .int .u8 0, nV] 29)
  rw [World.size_alloc] at h1
  have hs1 := ((Str.refl w).alloc (.cells (rqC 9 7 0 nV) 25)).alloc (.cells #[.int .u8 0, .int .u8 0, nV] 29)
  have hg := on_blk_mul h1.right
  have c0 := cell_of_row _ _ 0 _ _ _ hg
  have c1 := cell_of_row _ _ 1 _ _ _ hg
  have H1 := hide h1
  have HS1 := hide hs1
  clear h1 hs1 hg
  have c0' : ((w.alloc (.cells (rqC 9 7 0 nV) 25)).alloc (.cells #[.int .u8 0, .int .u8 0, nV] 29)).cell? ⟨w.heap.size, 0, Option.none⟩ = some (.int .u8 9) := c0
  have c1' : ((w.alloc (.cells (rqC 9 7 0 nV) 25)).alloc (.cells #[.int .u8 0, .int .u8 0, nV] 29)).cell? ⟨w.heap.size, 1, Option.none⟩ = some (.int .u8 7) := c1
  clear c0 c1
  go_enter Tryz.func10, Tryz.ntmps10
  go_wp2_with fail
  have hsz : ((w.alloc (.cells (rqC 9 7 0 nV) 25)).alloc (.cells #[.int .u8 0, .int .u8 0, nV] 29)).heap.size = w.heap.size + 1 + 1 := by simp
  have hE := oanswer_any 9 1 (some ⟨((w.alloc (.cells (rqC 9 7 0 nV) 25)).alloc (.cells #[.int .u8 0, .int .u8 0, nV] 29)).heap.size, 0, Option.none⟩) 1 1 (((w.alloc (.cells (rqC 9 7 0 nV) 25)).alloc (.cells #[.int .u8 0, .int .u8 0, nV] 29)).alloc (.cells #[.int .u8 7] 5))
  have hl := Lay.new ((w.alloc (.cells (rqC 9 7 0 nV) 25)).alloc (.cells #[.int .u8 0, .int .u8 0, nV] 29)) [vb 7] 5
  rw [hsz] at hE hl
  have hl2 : Lay (((w.alloc (.cells (rqC 9 7 0 nV) 25)).alloc (.cells #[.int .u8 0, .int .u8 0, nV] 29)).alloc (.cells #[.int .u8 7] 5)) (some ⟨w.heap.size + 1 + 1, 0, Option.none⟩) [vb 7] := hl
  have H2 := hide (H1.out.alloc' (.cells #[.int .u8 7] 5))
  have HS2 := hide (HS1.out.alloc (.cells #[.int .u8 7] 5))
  have Hl := hide hl2
  clear hl hl2 hsz c0' c1'
  generalize (((w.alloc (.cells (rqC 9 7 0 nV) 25)).alloc (.cells #[.int .u8 0, .int .u8 0, nV] 29)).alloc (.cells #[.int .u8 7] 5)) = w1 at *
  generalize hc : w.heap.size + 1 + 1 = c at *
  have Hc := hide hc.symm
  clear hc
  refine hE.mono ?_
  clear hE
  rintro e w2 ⟨rfl, hb⟩
  have hr2 := on_blk_mul (H2.out.below hb)
  have HB2 := hide (all_below (H2.out.below hb).right.right (HS2.out.trans (Str.below hb)))
  have hone : (rsC 9 1 (.slice (some ⟨c, 0, Option.none⟩) 1 1)).all (·.oneCell') = true := by simp [Value.oneCell', vb]
  have Hl2 := hide (Hl.out.below hb)
  have Hne := hide (show c ≠ w.heap.size + 1 from fun e => by have := Hc.out; omega)
  have Hl3 := hide (lay_setRow Hl2.out (w.heap.size + 1) (rsC 9 1 (.slice (some ⟨c, 0, Option.none⟩) 1 1)) Hne.out)
  clear hb
  go_wp2_with (refine wpList_store_row rfl _ _ _ rfl (w.heap.size + 1) (rsC 9 1 (.slice (some ⟨c, 0, Option.none⟩) 1 1)) rfl rfl _ _ hr2 hs rfl hone ?_)
  refine bodyPost_ret (v := .agg (rsC 9 1 (.slice (some ⟨c, 0, Option.none⟩) 1 1))) (results_cell_row Tryz.results10 _ _ (w.heap.size + 1) _ (rsC 9 1 (.slice (some ⟨c, 0, Option.none⟩) 1 1)) (0, 0) _ rfl (setRow_heap_same _ _ _ _ _ _ hr2) hu rfl hs) rfl ?_
  refine ⟨c, rfl, ?_, by have := Hc.out; omega, below_setRow HB2.out (by omega) _⟩
  exact Hl3.out

set_option maxRecDepth 100000 in
set_option maxHeartbeats 8000000 in
theorem oask_ping (p : Nat) (w : World) :
    Calls Tryz.prog 5 #[.pointer (some ⟨p, 0, Option.none⟩), .agg (rqC 9 7 0 nV)] w fun e w' => ∃ c, e = .returned (.tuple #[.agg (rsC 9 1 (.slice (some ⟨c, 0, Option.none⟩) 1 1)), .bool true]) ∧ Lay w' (some ⟨c, 0, Option.none⟩) [vb 7] ∧ Below w.heap.size w w' := by
  have hu := Tryz.underlying29
  have huq := Tryz.underlying25
  have hz := zr_hz
  have hs : (Tryz.prog.info? 29).map (·.size) = some 3 := by kernel_rfl
  have hsq : (Tryz.prog.info? 25).map (·.size) = some 4 := by kernel_rfl
  have h1 := ((on_all w).alloc (.cells (rqC 9 7 0 nV) 25)).alloc (.cells #[.int .u8 0, .int .u8 0, nV] 29)
  rw [World.size_alloc] at h1
  have hs1 := ((Str.refl w).alloc (.cells (rqC 9 7 0 nV) 25)).alloc (.cells #[.int .u8 0, .int .u8 0, nV] 29)
  have hg := on_blk_mul h1.right
  have c0 : ((w.alloc (.cells (rqC 9 7 0 nV) 25)).alloc (.cells #[.int .u8 0, .int .u8 0, nV] 29)).cell? ⟨w.heap.size, 0, Option.none⟩ = some (.int .u8 9) := cell_of_row _ _ 0 _ _ _ hg
  have hE := orespond_ping p ((w.alloc (.cells (rqC 9 7 0 nV) 25)).alloc (.cells #[.int .u8 0, .int .u8 0, nV] 29))
  have H1 := hide h1
  have HS1 := hide hs1
  have hsz : ((w.alloc (.cells (rqC 9 7 0 nV) 25)).alloc (.cells #[.int .u8 0, .int .u8 0, nV] 29)).heap.size = w.heap.size + 1 + 1 := by simp
  have Hsz := hide hsz
  clear h1 hs1 hsz
  go_enter Tryz.func5, Tryz.ntmps5
  go_wp2_with (refine wpList_load_row rfl _ _ rfl w.heap.size rfl _ (rqC 9 7 0 nV) _ _ hg huq rfl hsq ?_)
  generalize (w.alloc (.cells (rqC 9 7 0 nV) 25)).alloc (.cells #[.int .u8 0, .int .u8 0, nV] 29) = w1 at *
  refine hE.mono ?_
  clear hE hg c0
  rintro e w2 ⟨c, rfl, hl, hcw, hb⟩
  have hr2 := on_blk_mul (H1.out.below hb)
  have HB2 := hide (all_below (H1.out.below hb).right.right (HS1.out.trans (Str.below hb)))
  have hone : (rsC 9 1 (.slice (some ⟨c, 0, Option.none⟩) 1 1)).all (·.oneCell') = true := by simp [Value.oneCell', vb]
  have Hne := hide (show c ≠ w.heap.size + 1 from fun e => by have := Hsz.out; omega)
  have Hl3 := hide (lay_setRow hl (w.heap.size + 1) (rsC 9 1 (.slice (some ⟨c, 0, Option.none⟩) 1 1)) Hne.out)
  clear hb hl hcw
  go_wp2_with (refine wpList_store_row rfl _ _ _ rfl (w.heap.size + 1) (rsC 9 1 (.slice (some ⟨c, 0, Option.none⟩) 1 1)) rfl rfl _ _ hr2 hs rfl hone ?_)
  refine bodyPost_ret (v := .tuple #[.agg (rsC 9 1 (.slice (some ⟨c, 0, Option.none⟩) 1 1)), .bool true]) (results_cell_row_tmp Tryz.results5 _ _ (w.heap.size + 1) _ (rsC 9 1 (.slice (some ⟨c, 0, Option.none⟩) 1 1)) (0, 0) _ rfl (setRow_heap_same _ _ _ _ _ _ hr2) hu rfl hs (.bool true) rfl) rfl ?_
  refine ⟨c, rfl, ?_, below_setRow HB2.out (by omega) _⟩
  exact Hl3.out

set_option maxRecDepth 100000 in
set_option maxHeartbeats 8000000 in
theorem lives17_any (w : World) (hL : Lens w) : Calls Tryz.prog 4 #[] w fun e w' => e = .returned (.bool true) ∧ Below w.heap.size w w' := by
  have hu := Tryz.underlying29
  have hu8s := Tryz.underlying23
  have hu8 := Tryz.underlying5
  have hstr := Tryz.underlying9
  have hz := zr_hz
  have hs : (Tryz.prog.info? 29).map (·.size) = some 3 := by kernel_rfl
  have h1 := (on_all w).alloc (.cells #[nV, nV] 49)
  have HB1 : Hid (Below w.heap.size w (w.alloc (.cells #[nV, nV] 49))) := hide ((Below.refl _ _).alloc (Nat.le_refl _) _)
  have hE := onew_mem w.heap.size (all w) (w.alloc (.cells #[nV, nV] 49)) h1 (hL.below HB1.out)
  clear h1 hL
  rw [zlim_lit] at hE
  go_enter Tryz.func4, Tryz.ntmps4
  go_wp2_with (refine wpList_build_eq rfl 49 #[] rfl #[nV, nV] (build_mem _) ?_)
  generalize w.alloc (.cells #[nV, nV] 49) = w1 at *
  refine hE.mono ?_
  clear hE
  rintro e w2 ⟨⟨p, rfl⟩, hb⟩
  have HB2 := hide (HB1.out.trans (hb.mono HB1.out.size))
  have hE := oask_ping p w2
  clear hb
  go_wp2_with (refine wpList_build_two rfl 25 0 1 _ _ rfl (.int .u8 9) (.int .u8 7) rfl rfl (rqC 9 7 0 nV) (build_rq _) ?_)
  refine hE.mono ?_
  clear hE
  rintro e w3 ⟨c, rfl, hl, hb⟩
  have HB3 := hide (HB2.out.trans (hb.mono HB2.out.size))
  have hr3 := heap_alloc_new w3 (.cells #[.int .u8 0, .int .u8 0, nV] 29)
  have hone : (rsC 9 1 (.slice (some ⟨c, 0, Option.none⟩) 1 1)).all (·.oneCell') = true := by simp [Value.oneCell', vb]
  have h4 := ((on_all w3).alloc (.cells #[.int .u8 0, .int .u8 0, nV] 29)).setRow (rsC 9 1 (.slice (some ⟨c, 0, Option.none⟩) 1 1))
  have hs4 := ((Str.refl w3).alloc (.cells #[.int .u8 0, .int .u8 0, nV] 29)).setRow w3.heap.size (rsC 9 1 (.slice (some ⟨c, 0, Option.none⟩) 1 1))
  have hb4 := all_below h4.right hs4
  have hg4 := on_blk_mul h4
  have HB4 := hide (HB3.out.trans (hb4.mono HB3.out.size))
  have d1 : ((w3.alloc (.cells #[.int .u8 0, .int .u8 0, nV] 29)).setRow w3.heap.size (rsC 9 1 (.slice (some ⟨c, 0, Option.none⟩) 1 1))).cell? ⟨w3.heap.size, 1, Option.none⟩ = some (.int .u8 1) := cell_of_row _ _ 1 _ _ _ hg4
  have d2 : ((w3.alloc (.cells #[.int .u8 0, .int .u8 0, nV] 29)).setRow w3.heap.size (rsC 9 1 (.slice (some ⟨c, 0, Option.none⟩) 1 1))).cell? ⟨w3.heap.size, 2, Option.none⟩ = some (.slice (some ⟨c, 0, Option.none⟩) 1 1) := cell_of_row _ _ 2 _ _ _ hg4
  have k1 := run_string_of (P := Tryz.prog) (w := (w3.alloc (.cells #[.int .u8 0, .int .u8 0, nV] 29)).setRow w3.heap.size (rsC 9 1 (.slice (some ⟨c, 0, Option.none⟩) 1 1))) (c := 1) (l := [7]) hu8s hu8 (hl.below hb4) _ hstr
  simp only [List.length_cons, List.length_nil, Nat.zero_add, Nat.reduceAdd] at k1
  clear hb h4 hs4 hb4 hg4 hl
  generalize hW4 : (w3.alloc (.cells #[.int .u8 0, .int .u8 0, nV] 29)).setRow w3.heap.size (rsC 9 1 (.slice (some ⟨c, 0, Option.none⟩) 1 1)) = w4 at *
  have HW4 := hide hW4
  clear hW4
  go_wp2_with (refine wpList_store_row rfl _ _ _ rfl w3.heap.size (rsC 9 1 (.slice (some ⟨c, 0, Option.none⟩) 1 1)) rfl rfl _ _ hr3 hs rfl hone ?_; rw [HW4.out])
  go_ret
  exact ⟨rfl, HB4.out⟩

theorem lens_of_object {W : World} (hL : laidMetH Tryz.prog Rows.objectNilRow.laid W) : Lens W := by
  have h0 : laidMetH Tryz.prog (Rows.objectNilRow.laid) W := hL
  rw [MakeChecks.laidMetH_plain _ _ _ (by kernel_rfl)] at h0
  have h1 := laidMet.filter (fun x => x.1 == "bosun/packet.lengths") h0
  refine lens_of_laid ?_
  rw [MakeChecks.laidMetH_plain _ _ _ (by kernel_rfl)]
  exact h1

set_option maxRecDepth 100000 in
set_option maxHeartbeats 8000000 in
theorem walk_ObjectNil (w : World) (hL : laidMetH Tryz.prog Rows.objectNilRow.laid w) (s : ReqS) (iv : Value) (hn : s.size < 4294967296) (hb : IsBytes w iv s.data) :
    Calls Tryz.prog 3 #[.agg (reqCells s iv)] w fun e w' => e = .returned (.bool true) ∧ Below w.heap.size w w' := by
  have hLens := lens_of_object hL
  clear hL
  have hu := Tryz.underlying29
  have huq := Tryz.underlying25
  have hup := Tryz.underlying37
  have hz := zr_hz
  have hzp := pk_hz
  have hs : (Tryz.prog.info? 29).map (·.size) = some 3 := by kernel_rfl
  have hsq : (Tryz.prog.info? 25).map (·.size) = some 4 := by kernel_rfl
  have hsp : (Tryz.prog.info? 37).map (·.size) = some (pkC zP).size := by kernel_rfl
  have hpo := pkC_one zP
  have hco := ocomplete_nil
  have hnw := onew_nil
  simp only [zlim_lit] at hnw
  obtain ⟨a, c, rfl, _, _, _, _⟩ := hb
  obtain ⟨op, ty, sz, dt⟩ := s
  simp only at hn
  have H1 := hide ((on_all w).alloc (.cells (rqC op ty sz (.slice a dt.length c)) 25))
  have HS1 := hide ((Str.refl w).alloc (.cells (rqC op ty sz (.slice a dt.length c)) 25))
  have hLv := lives17_any (w.alloc (.cells (rqC op ty sz (.slice a dt.length c)) 25)) (hLens.below (all_below H1.out.right HS1.out))
  clear hLens
  have Hco := hide hco
  have Hnw := hide hnw
  clear hco hnw
  generalize pkC zP = Z at *
  go_enter Tryz.func3, Tryz.ntmps3
  go_wp2_with fail
  generalize hw1 : w.alloc (.cells (rqC op ty sz (.slice a dt.length c)) 25) = w1 at *
  clear hw1
  refine hLv.mono ?_
  clear hLv
  rintro e w2 ⟨rfl, hb2⟩
  have H2 := hide (H1.out.below hb2)
  have HS2 := hide (HS1.out.trans (Str.below hb2))
  have hg2 := on_blk_mul H2.out
  have hE := oask_nil op ty sz a dt.length c w2
  clear hb2
  go_wp2_with (refine wpList_load_row rfl _ _ rfl w.heap.size rfl _ (rqC op ty sz (.slice a dt.length c)) _ _ hg2 huq rfl hsq ?_)
  refine hE.mono ?_
  clear hE hg2
  rintro e w3 ⟨rfl, hb3⟩
  have h3 := H2.out.below hb3
  have hr3 := heap_alloc_new w3 (.cells #[.int .u8 0, .int .u8 0, nV] 29)
  have hone : (rsC op 10 nV).all (·.oneCell') = true := by simp [Value.oneCell', vb]
  have H4 := hide ((h3.alloc (.cells #[.int .u8 0, .int .u8 0, nV] 29)).setRow (rsC op 10 nV))
  have HS4 := hide (((HS2.out.trans (Str.below hb3)).alloc (.cells #[.int .u8 0, .int .u8 0, nV] 29)).setRow w3.heap.size (rsC op 10 nV))
  clear hb3 h3
  have hE := Hco.out ((w3.alloc (.cells #[.int .u8 0, .int .u8 0, nV] 29)).setRow w3.heap.size (rsC op 10 nV))
  generalize hW4 : (w3.alloc (.cells #[.int .u8 0, .int .u8 0, nV] 29)).setRow w3.heap.size (rsC op 10 nV) = w4 at *
  have HW4 := hide hW4
  clear hW4
  go_wp2_with (refine wpList_store_row rfl _ _ _ rfl w3.heap.size (rsC op 10 nV) rfl rfl _ _ hr3 hs rfl hone ?_; rw [HW4.out])
  refine hE.mono ?_
  clear hE hr3
  rintro e w5 ⟨rfl, hb5⟩
  have h5 := H4.out.below hb5
  have hr5 := heap_alloc_new w5 (.cells Z 37)
  have H6 := hide ((h5.alloc (.cells Z 37)).setRow Z).right
  have HS6 := hide (((HS4.out.trans (Str.below hb5)).alloc (.cells Z 37)).setRow w5.heap.size Z)
  have hE := Hnw.out ((w5.alloc (.cells Z 37)).setRow w5.heap.size Z)
  clear hb5 h5
  generalize hW6 : (w5.alloc (.cells Z 37)).setRow w5.heap.size Z = w6 at *
  have HW6 := hide hW6
  clear hW6
  go_wp2_with (refine wpList_store_row rfl _ _ _ rfl w5.heap.size Z rfl rfl _ _ hr5 hsp rfl hpo ?_; rw [HW6.out])
  refine hE.mono ?_
  clear hE hr5
  rintro e w7 ⟨rfl, hb7⟩
  have H7 := hide (H6.out.below hb7)
  have HS7 := hide (HS6.out.trans (Str.below hb7))
  have hgr := on_blk_mul H7.out
  have hgq := on_blk_mul H7.out.right
  have d0 : w7.cell? ⟨w3.heap.size, 0, Option.none⟩ = some (vb op) := cell_of_row _ _ 0 _ _ _ hgr
  have d1 : w7.cell? ⟨w3.heap.size, 1, Option.none⟩ = some (.int .u8 10) := cell_of_row _ _ 1 _ _ _ hgr
  have d2 : w7.cell? ⟨w3.heap.size, 2, Option.none⟩ = some nV := cell_of_row _ _ 2 _ _ _ hgr
  have q0 : w7.cell? ⟨w.heap.size, 0, Option.none⟩ = some (vb op) := cell_of_row _ _ 0 _ _ _ hgq
  have hbb : (((op.toNat : Nat) : Int) == ((op.toNat : Nat) : Int)) = true := by simp
  have HB7 := hide (all_below H7.out.right.right HS7.out)
  clear hgr hgq hb7
  go_wp2_with fail
  go_ret
  exact ⟨rfl, HB7.out⟩
namespace lawObjectNil
theorem own : ownKnob Tryz.prog.godebug = Option.none := by kernel_rfl
theorem laidOut : laidOutB Tryz.prog = true := by kernel_rfl

set_option maxRecDepth 100000 in
theorem contract (H : Type) (enc : TypeId × Value → H) (W : World) (base : Nat) (args : Array Value) (ds gs : List (DataW H)) (before : List MemPlace)
    (hval0 : ∀ (j : Nat) t v, Tryz.f3.params[j]? = some t → args[j]? = some v → Value.okWide Tryz.prog W .any base t v)
    (hW : DataW.Whole enc Tryz.prog Tryz.f3.params.toList Rows.objectNilSpec.vars false W args.toList ds gs before) (hsz : (DataW.weightsEach Tryz.prog (Tryz.f3.params.toList ++ (OpenSpec.ofChange Rows.objectNilSpec).bare.plain.varTypes Tryz.prog) (ds ++ gs)).all (· ≤ reachBytes) = true) (hL : laidMetH Tryz.prog Rows.objectNilRow.laid W) :
    Calls Tryz.prog 3 args W fun e W' => ∃ v, e = .returned v ∧ Rows.objectNilSpec.post enc Tryz.prog Tryz.f3 false true false false W args v W' := by
  have hval : ∀ (j : Nat) t v, Tryz.f3.params[j]? = some t → args[j]? = some v → Value.okWide Tryz.prog W .any base t v := hval0
  have hW' := hW
  obtain ⟨p, q, hA0, hV, rfl, hfz, hnd⟩ := hW
  have hA : DataW.TrodAll enc Tryz.prog W 0 (fun _ => true) true Tryz.f3.params.toList args.toList ds p := hA0
  rw [Tryz.params3] at hA hval
  obtain ⟨v0, vs0, d0, ds0, p0, q0, hargs, rfl, rfl, h0, r0⟩ := trodAll_cons hA
  obtain ⟨rfl, rfl, rfl⟩ := trodAll_nil r0
  obtain rfl : args = #[v0] := by cases args; simp_all
  obtain ⟨rfl, rfl⟩ := trodVars_none hV
  have k0 := h0
  have lt0 : ∀ x ∈ p0, x.block < W.heap.size := by obtain ⟨m, hm⟩ := k0; exact DataW.trod_lt m _ _ _ hm
  obtain ⟨s0, iv0, rfl, nn0, b0⟩ := open_req (hval 0 25 v0 rfl rfl) h0
  clear hA0 hval0 hsz
  refine (walk_ObjectNil W hL s0 iv0 nn0 b0).mono fun e W' ⟨he, bel⟩ => ?_
  subst he
  exact ⟨_, rfl, _, _, _, [], _, [], hW', trodAll_mk1 (shut_bool Tryz.underlying4 _), (trodAll_cons_mk (Below.trod laidOut (by kernel_rfl) (of_decide_eq_true (by kernel_rfl)) k0 bel lt0) trodAll_mk0), rfl, bel.frame _, fun h => by cases h⟩

/-- a world for the witness: the settled one, the listed variables holding what their initialisers lay -/
def litCells (d : DataW Unit) : Array Value := match d with
  | .agg l => (l.filterMap fun x => match x with | .lit (.int k n) => some (Value.int k n) | _ => Option.none).toArray
  | _ => #[]
noncomputable def laidWorld (os : Os) : World :=
  { World.holding Tryz.prog os ⟨#[], #[], []⟩ with heap := (((((((((((((((World.holding Tryz.prog os ⟨#[], #[], []⟩).heap.modify 8 fun
      | .cells _ t frozen => .cells (litCells Rows.laid_bosun_field_modulus) t frozen
      | o => o).modify 9 fun
      | .cells _ t frozen => .cells (litCells Rows.laid_bosun_field_lessTwo) t frozen
      | o => o).modify 10 fun
      | .cells _ t frozen => .cells (litCells Rows.laid_bosun_field_eighth) t frozen
      | o => o).modify 11 fun
      | .cells _ t frozen => .cells (litCells Rows.laid_bosun_field_rootOfMinusOne) t frozen
      | o => o).modify 12 fun
      | .cells _ t frozen => .cells (litCells Rows.laid_bosun_longsum_first) t frozen
      | o => o).modify 13 fun
      | .cells _ t frozen => .cells (litCells Rows.laid_bosun_longsum_rounds) t frozen
      | o => o).modify 6 fun
      | .cells _ t frozen => .cells (litCells Rows.laid_bosun_scalar_order) t frozen
      | o => o).modify 5 fun
      | .cells _ t frozen => .cells (litCells Rows.laid_bosun_curve_d) t frozen
      | o => o).modify 7 fun
      | .cells _ t frozen => .cells (litCells Rows.laid_bosun_curve_dTwice) t frozen
      | o => o).modify 3 fun
      | .cells _ t frozen => .cells (litCells Rows.laid_bosun_curve_baseX) t frozen
      | o => o).modify 4 fun
      | .cells _ t frozen => .cells (litCells Rows.laid_bosun_curve_baseY) t frozen
      | o => o).modify 0 fun
      | .cells _ t frozen => .cells (litCells Rows.laid_bosun_shortsum_first) t frozen
      | o => o).modify 2 fun
      | .cells _ t frozen => .cells (litCells Rows.laid_bosun_shortsum_rounds) t frozen
      | o => o).modify 1 fun
      | .cells _ t frozen => .cells (litCells Rows.laid_bosun_packet_lengths) t frozen
      | o => o) }
theorem laid_met (os : Os) : laidMet Tryz.prog Rows.objectNilRow.laid ((laidWorld os).forCall (fun _ _ => 0) ⟨#[], #[.agg #[.int .u8 0, .int .u8 0, .int .u32 0, .slice Option.none 0 0]], []⟩).memory :=
  laidMet_of_run' 8 (by kernel_rfl) (by kernel_rfl)
theorem reads (os : Os) {H : Type} (enc : TypeId × Value → H) : ∃ places, DataW.whole enc Tryz.prog ((laidWorld os).forCall (fun _ _ => 0) ⟨#[], #[.agg #[.int .u8 0, .int .u8 0, .int .u32 0, .slice Option.none 0 0]], []⟩).memory Tryz.f3.params.toList Rows.objectNilSpec.vars false (#[.agg #[.int .u8 0, .int .u8 0, .int .u32 0, .slice Option.none 0 0]] : Array Value).toList 8 = some ([.agg [.lit (.int .u8 0), .lit (.int .u8 0), .lit (.int .u32 0), .nil]], [], places) :=
  ⟨[], by kernel_rfl⟩

set_option maxRecDepth 100000 in
theorem lifted (os : Os) (started : os.Started) (H : Type) (enc : TypeId × Value → H) (F : Stop.Interp) :
    ReturnsInHanded {} Tryz.checked os 3 .any ((OpenSpec.ofChange Rows.objectNilSpec).preRow enc Tryz.prog Tryz.f3 Rows.objectNilRow.domain false Rows.objectNilRow.laid) (((OpenSpec.ofChange Rows.objectNilSpec).at F).post enc Tryz.prog Tryz.f3 false true false false) := by
  obtain ⟨places, hx⟩ := reads os enc
  refine returnsInHanded_of_row (C := Tryz.checked) (s := OpenSpec.ofChange Rows.objectNilSpec) own started (by kernel_rfl) Tryz.func3
    (witness_row_at (enc := enc) (C := Tryz.checked) false (laidWorld os) #[.agg #[.int .u8 0, .int .u8 0, .int .u32 0, .slice Option.none 0 0]] rfl (by kernel_rfl) (by kernel_rfl) (by kernel_rfl)
      (OpenSpec.preRow_of_cond 8 hx (by kernel_rfl) (fun k hk => by cases hk) (by kernel_rfl) (laid_met os))) ?_
  intro W base args ds gs before hval hW _ _ hsz hL _ _
  exact contract H enc W base args ds gs before hval hW hsz hL

theorem said : Rows.ObjectNilSaid :=
  OpenClaim.holds_of_cond 3 Tryz.f3 rfl rfl rfl rfl rfl rfl rfl ⟨rfl, rfl, rfl, rfl, rfl⟩ rfl rfl rfl rfl rfl (by kernel_rfl) Tryz.func3 (by kernel_rfl)
    (of_decide_eq_true (by kernel_rfl)) (by unfold Func.isWrapper; first | (rw [if_pos (by decide +kernel)]; kernel_rfl) | (rw [if_neg (by decide +kernel)]; exact ⟨rfl, rfl⟩))
    (fun os started H enc _ F => by rw [OpenClaim.pre_eq_preRow]; exact lifted os started H enc F)

theorem plain (f : FuncId) (fn : Func) (hf : Tryz.pinned.checked.prog.funcNamed "bosun/bosunlaw17.ObjectNil" = some f) (hfn : Tryz.pinned.checked.prog.funcs[f]? = some fn) :
    false = Tryz.pinned.checked.prog.looks [] ∧ ∀ (j : Nat) t, fn.params[j]? = some t → Tryz.pinned.checked.prog.wantsStandIn t = false := by
  obtain rfl : f = 3 := Option.some.inj ((show Tryz.prog.funcNamed "bosun/bosunlaw17.ObjectNil" = some 3 by kernel_rfl).symm.trans hf) |>.symm
  obtain rfl : fn = Tryz.f3 := (Option.some.inj (Tryz.func3.symm.trans hfn)).symm
  refine ⟨by kernel_rfl, fun j t ht => ?_⟩
  rw [Tryz.params3] at ht
  have hm : t ∈ [25] := by simpa using Array.mem_of_getElem? ht
  have hall : ∀ t ∈ [25], Tryz.prog.wantsStandIn t = false := by
    intro t ht
    simp only [List.mem_cons, List.not_mem_nil, or_false] at ht
    rcases ht with rfl <;> kernel_rfl
  exact hall t hm

theorem proved : Rows.ObjectNilCardSaid :=
  Claim7.holds_tied_plain_at .later [] _ _ _ _ said (fun _ h => by cases h) (by kernel_rfl) (fun _ h => by cases h) objectNil_row_tie rfl ⟨rfl, rfl⟩ (by kernel_rfl) rfl plain (by kernel_rfl)
end lawObjectNil
end Go.Proofs.YtgkofpfjbjnhfaaGreatDoor
