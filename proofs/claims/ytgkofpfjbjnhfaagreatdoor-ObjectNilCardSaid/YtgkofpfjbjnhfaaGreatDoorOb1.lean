/- object: no machine; a new one on a store in memory; an answer to Ping. -/
import Derived.Test.YtgkofpfjbjnhfaaGreatDoorPk7
namespace Go.Proofs.YtgkofpfjbjnhfaaGreatDoor
open Go.ChangeShapes Go.WideShapes Go.ChangeAt Go.RowKit
set_option linter.unusedVariables false
set_option linter.unusedSimpArgs false

abbrev nV : Value := .slice Option.none 0 0
/-- limits that were never set -/
def zLim : Array Value := (vbs (List.replicate 32 0) ++ [Value.int .u32 0, .int .u8 0, .int .u32 0, .int .u32 0]).toArray
/-- a machine that goes on where an empty store is -/
def mC (b : Nat) : Array Value := ([Value.iface 47 (.pointer (some ⟨b, 0, Option.none⟩))] ++ zLim.toList ++ [Value.int .u8 0, .bool false, .int .i64 0, nV, .bool false, .int .i64 0, nV, .bool false, .int .i64 0, nV, nV] ++ pkL zP ++ [Value.int .i64 0, .int .u32 0, .int .u32 0, .int .u32 0]).toArray
abbrev rsC (op res : UInt8) (dv : Value) : Array Value := #[vb op, vb res, dv]
theorem build_lim (w : World) : (Instr.build 45 #[]).run Tryz.prog w = .ok (.agg zLim) w := by kernel_rfl
theorem build_mem (w : World) : (Instr.build 49 #[]).run Tryz.prog w = .ok (.agg #[nV, nV]) w := by kernel_rfl
theorem build_pkz (w : World) : (Instr.build 37 #[]).run Tryz.prog w = .ok (.agg (pkC zP)) w := by kernel_rfl
theorem build_m (b : Nat) (w : World) : (Instr.build 59 #[(0, .iface 47 (.pointer (some ⟨b, 0, Option.none⟩))), (1, .agg zLim)]).run Tryz.prog w = .ok (.agg (mC b)) w := by kernel_rfl
theorem zr_hz (w : World) : (zeroValue 29).run Tryz.prog w = .ok (.agg #[.int .u8 0, .int .u8 0, nV]) w := by kernel_rfl
theorem nil_eq (w : World) : (binOp .eql 54 .nilIface .nilIface).run Tryz.prog w = .ok (.bool true) w := by kernel_rfl
theorem mem_eq (w : World) (a : Addr) : (binOp .eql 54 (.iface 47 (.pointer (some a))) .nilIface).run Tryz.prog w = .ok (.bool false) w := by kernel_rfl
theorem pparse_nil : pparse [] = (zP, 7) := rfl
theorem wpList_build_eq {P : Program} {ops : Array Oper} {rest : List Oper} {o : Oper} {a : Act} {w : World} {Q : Exit → Act → World → Prop} (hgd : o.guard = Option.none) (T : TypeId) (parts : Array (Nat × Operand)) (ho : o.op = .build T parts) (cs : Array Value)
    (hb : (Instr.build T (parts.map fun (i, x) => (i, a.eval x))).run P w = .ok (.agg cs) w) (hk : wpList P ops Q rest (a.put o.dst (.agg cs)) w) : wpList P ops Q (o :: rest) a w := by
  have hr : (execOp a.eval o).run P w = .ok (.value (.agg cs)) w := by
    unfold execOp
    rw [ho]
    simp only
    rw [Sem.run_bind, hb]
    rfl
  exact wpList_plain hgd fun _ hK => by
    unfold Oper.wp
    simp only [hr]
    exact hK _ _ hk

theorem wpList_build_two {P : Program} {ops : Array Oper} {rest : List Oper} {o : Oper} {a : Act} {w : World} {Q : Exit → Act → World → Prop} (hgd : o.guard = Option.none) (T : TypeId) (i j : Nat) (x y : Operand) (ho : o.op = .build T #[(i, x), (j, y)]) (vx vy : Value) (hx : a.eval x = vx) (hy : a.eval y = vy) (cs : Array Value)
    (hb : (Instr.build T #[(i, vx), (j, vy)]).run P w = .ok (.agg cs) w) (hk : wpList P ops Q rest (a.put o.dst (.agg cs)) w) : wpList P ops Q (o :: rest) a w := by
  have hr : (execOp a.eval o).run P w = .ok (.value (.agg cs)) w := by
    unfold execOp
    rw [ho]
    simp only [List.map_toArray, List.map_cons, List.map_nil, hx, hy]
    rw [Sem.run_bind, hb]
    rfl
  exact wpList_plain hgd fun _ hK => by
    unfold Oper.wp
    simp only [hr]
    exact hK _ _ hk
set_option maxRecDepth 100000 in
set_option maxHeartbeats 4000000 in
theorem oanswer_any (op res : UInt8) (a : Option Addr) (n c : Nat) (w : World) :
    Calls Tryz.prog 8 #[vb op, vb res, .slice a n c] w fun e w' => e = .returned (.agg (rsC op res (.slice a n c))) ∧ Below w.heap.size w w' := by
  have hu := Tryz.underlying29
  have hz := zr_hz
  have hs : (Tryz.prog.info? 29).map (·.size) = some 3 := by kernel_rfl
  have hr := heap_alloc_new w (.cells #[.int .u8 0, .int .u8 0, nV] 29)
  have hone : (rsC op res (.slice a n c)).all (·.oneCell') = true := by simp [Value.oneCell', vb]
  go_enter Tryz.func8, Tryz.ntmps8
  go_wp2_with (refine wpList_store_row rfl _ _ _ rfl w.heap.size (rsC op res (.slice a n c)) rfl rfl _ _ hr hs rfl hone ?_)
  refine bodyPost_ret (v := .agg (rsC op res (.slice a n c))) (results_cell_row Tryz.results8 _ _ w.heap.size _ (rsC op res (.slice a n c)) (0, 0) _ rfl (setRow_heap_same _ _ _ _ _ _ hr) hu rfl hs) rfl ⟨rfl, below_setRow ((Below.refl _ _).alloc (Nat.le_refl _) _) (Nat.le_refl _) _⟩

set_option maxRecDepth 100000 in
set_option maxHeartbeats 4000000 in
theorem memload_any (b : Nat) (w : World) (h0 : w.cell? ⟨b, 0, Option.none⟩ = some nV) (h1 : w.cell? ⟨b, 1, Option.none⟩ = some nV) :
    Calls Tryz.prog 126 #[.pointer (some ⟨b, 0, Option.none⟩)] w fun e w' => e = .returned (.tuple #[nV, .int .i64 0]) ∧ Below w.heap.size w w' := by
  have hap : ∀ w, (Builtin.append_ #[23, 23] 23 #[nV, nV]).run Tryz.prog w = .ok nV w := fun w => by kernel_rfl
  have H0 : Hid (∀ X, Stay w X → X.cell? ⟨b, 0, Option.none⟩ = some nV) := hide fun X hX => (hX.cell (p := ⟨b, 0, Option.none⟩) (World.block_lt_of_cell? _ _ h0)).trans h0
  have H1 : Hid (∀ X, Stay w X → X.cell? ⟨b, 1, Option.none⟩ = some nV) := hide fun X hX => (hX.cell (p := ⟨b, 1, Option.none⟩) (World.block_lt_of_cell? _ _ h1)).trans h1
  clear h0 h1
  go_enter Tryz.func126, Tryz.ntmps126
  go_wp2_with fail
  refine wp_region_vs [isV (.pointer (some ⟨b, 0, Option.none⟩)), isV (.pointer (some ⟨b, 0, Option.none⟩)), isV (.pointer (some ⟨b, 0, Option.none⟩)), isV (nV), isV (nV), isV (.pointer (some ⟨b, 0, Option.none⟩)), isV (.pointer (some ⟨b, 0, Option.none⟩)), isV (.pointer (some ⟨b, 1, Option.none⟩)), isV (nV), isV (.int .i64 0), isV (nV), isV (.int .i64 0)]
    (by kernel_rfl) (by kernel_rfl) rfl ?keep ?todo ?rest
  case keep => exact ⟨Keep.isV _, Keep.isV _, Keep.isV _, Keep.isV _, Keep.isV _, Keep.isV _, Keep.isV _, Keep.isV _, Keep.isV _, Keep.isV _, Keep.isV _, Keep.isV _, trivial⟩
  case todo =>
    refine ⟨?_, ?_, ?_, ?_, ?_, ?_, ?_, ?_, ?_, ?_, ?_, ?_, trivial⟩
    · intro ev X hT hb hk hf
      have e0 : ev (.tmp 0) = .pointer (some ⟨b, 0, Option.none⟩) := hk.1
      exact OpOk.move rfl e0 ⟨rfl, Stay.refl _⟩
    · intro ev X hT hb hk hf
      have e0 : ev (.tmp 6) = .pointer (some ⟨b, 0, Option.none⟩) := hf.1
      exact OpOk.run (v := .pointer (some ⟨b, 0, Option.none⟩)) (W' := X) (by simp [execOp, e0, hb.1, go_sem]) ⟨rfl, Stay.refl _⟩
    · intro ev X hT hb hk hf
      have e0 : ev (.tmp 7) = .pointer (some ⟨b, 0, Option.none⟩) := hf.1
      exact OpOk.run (v := .pointer (some ⟨b, 0, Option.none⟩)) (W' := X) (by simp [execOp, e0, hb.1, go_sem]) ⟨rfl, Stay.refl _⟩
    · intro ev X hT hb hk hf
      have e0 : ev (.tmp 8) = .pointer (some ⟨b, 0, Option.none⟩) := hf.1
      have cW := H0.out X hT
      exact OpOk.run (v := nV) (W' := X) (by simp [execOp, e0, cW, go_sem]) ⟨rfl, Stay.refl _⟩
    · intro ev X hT hb hk hf
      have e0 : ev (.tmp 9) = nV := hf.1
      exact OpOk.run (v := nV) (W' := X) (by
        unfold execOp
        simp only [resolve, invoke, builtin, Sem.run_bind, Sem.run_pure, Result.andThen_ok, List.map_toArray, List.map_cons, List.map_nil, e0, hb.1, hap X]) ⟨rfl, Stay.refl _⟩
    · intro ev X hT hb hk hf
      have e0 : ev (.tmp 0) = .pointer (some ⟨b, 0, Option.none⟩) := hk.1
      exact OpOk.move rfl e0 ⟨rfl, Stay.refl _⟩
    · intro ev X hT hb hk hf
      have e0 : ev (.tmp 11) = .pointer (some ⟨b, 0, Option.none⟩) := hf.1
      exact OpOk.run (v := .pointer (some ⟨b, 0, Option.none⟩)) (W' := X) (by simp [execOp, e0, hb.1, go_sem]) ⟨rfl, Stay.refl _⟩
    · intro ev X hT hb hk hf
      have e0 : ev (.tmp 12) = .pointer (some ⟨b, 0, Option.none⟩) := hf.1
      exact OpOk.run (v := .pointer (some ⟨b, 1, Option.none⟩)) (W' := X) (by simp [execOp, e0, hb.1, go_sem]) ⟨rfl, Stay.refl _⟩
    · intro ev X hT hb hk hf
      have e0 : ev (.tmp 13) = .pointer (some ⟨b, 1, Option.none⟩) := hf.1
      have cW := H1.out X hT
      exact OpOk.run (v := nV) (W' := X) (by simp [execOp, e0, cW, go_sem]) ⟨rfl, Stay.refl _⟩
    · intro ev X hT hb hk hf
      have e0 : ev (.tmp 14) = nV := hf.1
      exact OpOk.run (v := .int .i64 0) (W' := X) (by simp [execOp, e0, hb.1, go_sem]) ⟨rfl, Stay.refl _⟩
    · intro ev X hT hb hk hf
      have e0 : ev (.tmp 10) = nV := hf.1
      exact OpOk.assign rfl e0 ⟨rfl, Stay.refl _⟩
    · intro ev X hT hb hk hf
      have e0 : ev (.tmp 15) = .int .i64 0 := hf.1
      exact OpOk.assign rfl e0 ⟨rfl, Stay.refl _⟩
  case rest =>
    intro X hT
    rintro _ - _ - _ - _ - _ - _ - _ - _ - _ - _ - _ rfl _ rfl
    have HBB := hide hT
    clear hT
    go_wp2
    refine Rest.done ?_
    go_wp2_with fail
    go_ret2
    exact ⟨rfl, HBB.out⟩

set_option maxRecDepth 100000 in
set_option maxHeartbeats 8000000 in
theorem pcheck_nil (w : World) (hL : Lens w) :
    Calls Tryz.prog 19 #[nV, .agg zLim] w fun e w' => e = .returned (.tuple #[.agg (pkC zP), .int .i64 7]) ∧ Below w.heap.size w w' := by
  have hup := Tryz.underlying37
  have hz := pk_hz
  have hbz := build_pkz
  have hzs : (Tryz.prog.info? 37).map (·.size) = some (pkC zP).size := by kernel_rfl
  have hzo := pkC_one zP
  have h1 := ((on_all w).alloc (.cells zLim 45)).alloc (.cells (pkC zP) 37)
  have hs1 := ((Str.refl w).alloc (.cells zLim 45)).alloc (.cells (pkC zP) 37)
  rw [World.size_alloc] at h1
  have hE := pkparse_any nV [] ((w.alloc (.cells zLim 45)).alloc (.cells (pkC zP) 37)) (IsBytes.nil _) (by decide) (hL.below (all_below h1.right.right hs1))
  rw [pparse_nil] at hE
  have hE : Calls Tryz.prog 30 #[nV] ((w.alloc (.cells zLim 45)).alloc (.cells (pkC zP) 37)) (fun e w' => e = .returned (.tuple #[.agg (pkC zP), .int .i64 7]) ∧ Below ((w.alloc (.cells zLim 45)).alloc (.cells (pkC zP) 37)).heap.size ((w.alloc (.cells zLim 45)).alloc (.cells (pkC zP) 37)) w') := hE
  have H1 := hide h1
  have HS1 := hide hs1
  clear h1 hs1 hL
  generalize hLm : zLim = lm at *
  generalize hZ : pkC zP = Z at *
  clear hLm hZ
  go_enter Tryz.func19, Tryz.ntmps19
  go_wp2_with fail
  generalize (w.alloc (.cells lm 45)).alloc (.cells Z 37) = w1 at *
  refine hE.mono ?_
  clear hE
  rintro e w2 ⟨rfl, hb⟩
  have h2 := H1.out.below hb
  have hr2 := heap_alloc_new w2 (.cells Z 37)
  have h3 := (h2.alloc (.cells Z 37)).setRow Z
  have hs3 := ((HS1.out.trans (Str.below hb)).alloc (.cells Z 37)).setRow w2.heap.size Z
  have H3 := hide h3
  have HS3 := hide hs3
  have hR := on_blk_mul h3.right
  clear h2 h3 hs3 hb
  generalize hW3 : (w2.alloc (.cells Z 37)).setRow w2.heap.size Z = w3 at *
  have HW3 := hide hW3
  clear hW3
  go_wp2_with (first
    | (refine wpList_store_row rfl _ _ _ rfl w2.heap.size Z rfl rfl _ _ hr2 hzs rfl hzo ?_; rw [HW3.out])
    | (refine wpList_store_row rfl _ _ _ rfl (w.heap.size + 1) Z rfl rfl _ _ hR hzs rfl hzo ?_)
    | (refine wpList_build_eq rfl _ _ rfl Z (hbz _) ?_))
  refine bodyPost_ret (v := .tuple #[.agg Z, .int .i64 7]) (results_cell_row_tmp Tryz.results19 _ _ (w.heap.size + 1) _ Z (0, 0) _ rfl (setRow_heap_same _ _ _ _ _ _ hR) hup rfl hzs (.int .i64 7) rfl) rfl ?_
  exact ⟨rfl, below_setRow (all_below H3.out.right.right.right HS3.out) (by omega) _⟩

set_option maxRecDepth 100000 in
set_option maxHeartbeats 8000000 in
theorem resume_empty (p b : Nat) (F : SP) (w : World) (h : (blk p (.cells (mC b) 59 (0, 0)) * (blk b (.cells #[nV, nV] 49 (0, 0)) * F)).on w) (hL : Lens w) :
    Calls Tryz.prog 12 #[.pointer (some ⟨p, 0, Option.none⟩)] w fun e w' => (∃ v, e = .returned v) ∧ Below w.heap.size w w' := by
  have hup := Tryz.underlying37
  have hul := Tryz.underlying45
  have hz := pk_hz
  have hzs : (Tryz.prog.info? 37).map (·.size) = some (pkC zP).size := by kernel_rfl
  have hzo := pkC_one zP
  have hls : (Tryz.prog.info? 45).map (·.size) = some zLim.size := by kernel_rfl
  have hg := on_blk_mul h
  have c0 : w.cell? ⟨p, 0, Option.none⟩ = some (.iface 47 (.pointer (some ⟨b, 0, Option.none⟩))) := cell_of_row _ _ 0 _ _ _ hg
  have hgb := on_blk_mul h.right
  have hE := memload_any b w (cell_of_row _ _ 0 _ _ _ hgb) (cell_of_row _ _ 1 _ _ _ hgb)
  have HLm : Hid (∀ X, Stay w X → ∀ j v, zLim[j]? = some v → X.cell? ⟨p, 1 + j, Option.none⟩ = some v) := hide fun X hX j v hj => by
    have hgX := (hX.block p (Array.getElem?_eq_some_iff.1 hg).1).trans hg
    rw [cell_of_row _ _ _ _ _ _ hgX]
    have hj2 : j < zLim.toList.length := by have := (Array.getElem?_eq_some_iff.1 hj).1; simpa using this
    unfold mC
    rw [List.getElem?_toArray, List.append_assoc, List.append_assoc, List.append_assoc, List.getElem?_append_right (by simp), show 1 + j - [Value.iface 47 (.pointer (some ⟨b, 0, Option.none⟩))].length = j by simp, List.getElem?_append_left hj2]
    simpa using hj
  have nilA : ∀ w (a : Addr), (nilAhead 157 47 (.pointer (some a)) "Load").run Tryz.prog w = .ok (some false) w := fun w a => by kernel_rfl
  have HL := hide hL
  clear h hL hg hgb
  generalize hLm : zLim = lm at *
  have HLmE := hide hLm
  generalize hZ : pkC zP = Z at *
  have HZ := hide hZ
  clear hLm hZ
  go_enter Tryz.func12, Tryz.ntmps12
  go_wp2_with fail
  refine hE.mono ?_
  clear hE
  rintro e w2 ⟨rfl, hb⟩
  have HB2 := hide hb
  have HLm2 : Hid (∀ j v, lm[j]? = some v → w2.cell? ⟨p, 1 + j, Option.none⟩ = some v) := hide (HLm.out w2 hb)
  have hE := pcheck_nil w2 (HL.out.below hb)
  rw [HLmE.out, HZ.out] at hE
  clear hb c0
  go_wp2_with (refine wpList_load_part rfl _ _ rfl p 1 rfl lm _ HLm2.out hul rfl hls ?_)
  refine hE.mono ?_
  clear hE
  rintro e w3 ⟨rfl, hb⟩
  have HB3 := hide (HB2.out.trans (hb.mono HB2.out.size))
  have hr3 := heap_alloc_new w3 (.cells Z 37)
  have HB4 := hide (below_setRow (HB3.out.alloc HB3.out.size (.cells Z 37)) HB3.out.size Z)
  clear hb
  go_wp2_with (refine wpList_store_row rfl _ _ _ rfl w3.heap.size Z rfl rfl _ _ hr3 hzs rfl hzo ?_)
  exact bodyPost_ret (v := .tuple #[]) (by simp [results, Tryz.results12, go_sem]) rfl ⟨⟨_, rfl⟩, HB4.out⟩

end Go.Proofs.YtgkofpfjbjnhfaaGreatDoor
