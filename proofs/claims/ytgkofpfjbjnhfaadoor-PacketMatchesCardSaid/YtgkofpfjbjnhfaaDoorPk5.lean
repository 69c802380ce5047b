/- The document's packets: their bytes; a packet as the document has it. -/
import Derived.Test.YtgkofpfjbjnhfaaDoorPk4
import Derived.Test.YtgkofpfjbjnhfaaDoorWord12
namespace Go.Proofs.YtgkofpfjbjnhfaaDoor
open Go.ChangeShapes Go.WideShapes Go.ChangeAt Go.RowKit
set_option linter.unusedVariables false
set_option linter.unusedSimpArgs false

theorem rpC_box (p : PkS) (w : World) (t : TypeId) : Below w.heap.size w (w.alloc (.cells (rpC p) t)) := (Below.refl _ _).alloc (Nat.le_refl _) _

/-- what a struct that is built holds: the cells of a part in the place of the former ones -/
theorem foldl_set (off : Nat) : ∀ (l : List Value) (k : Nat) (cs : Array Value), off + k + l.length ≤ cs.size →
    ((l.zipIdx k).foldl (fun cs (x : Value × Nat) => cs.setIfInBounds (off + x.2) x.1) cs).toList = cs.toList.take (off + k) ++ l ++ cs.toList.drop (off + k + l.length)
  | [], k, cs, h => by simp
  | v :: l, k, cs, h => by
    simp only [List.length_cons] at h
    simp only [List.zipIdx_cons, List.foldl_cons]
    rw [foldl_set off l (k + 1) _ (by simp; omega)]
    have hk : off + k < cs.toList.length := by simp; omega
    rw [Array.toList_setIfInBounds, show off + (k + 1) = off + k + 1 by omega, List.take_succ_eq_append_getElem (by simpa using hk)]
    rw [List.take_set_of_le (by omega), List.getElem_set_self, List.drop_set_of_lt (by omega)]
    simp [Nat.add_assoc, Nat.add_comm, Nat.add_left_comm]
theorem fill_cons (place : Nat → Option (Nat × Nat)) (cells : Array Value) (i : Nat) (v : Value) (rest : List (Nat × Value)) (off size : Nat) (l : List Value) (hp : place i = some (off, size)) (hv : v.cells = l.toArray) (hs : l.length = size) (hb : off + size ≤ cells.size) (cs' : Array Value)
    (hc : cells.toList.take off ++ l ++ cells.toList.drop (off + size) = cs'.toList) : Instr.fill place cells ((i, v) :: rest) = Instr.fill place cs' rest := by
  have e : v.cells.zipIdx.foldl (fun cs (x : Value × Nat) => cs.setIfInBounds (off + x.2) x.1) cells = cs' := by
    apply Array.toList_inj.1
    rw [← hc, hv, ← Array.foldl_toList, Array.toList_zipIdx]
    have := foldl_set off l 0 cells (by omega)
    simp only [Nat.add_zero, hs] at this
    exact this
  have h1 : ¬(v.cells.size ≠ size ∨ off + v.cells.size > cells.size) := by rw [hv]; simp; omega
  simp only [Instr.fill, hp]
  split
  · rename_i h2
    simp only [Bool.or_eq_true, decide_eq_true_eq] at h2
    exact absurd (by simpa using h2) h1
  · exact congrArg (Instr.fill place · rest) e

theorem build_step {P : Program} {w : World} (m : Sem (Array (Nat × Nat))) (pl : Array (Nat × Nat)) (zero : Array Value) (parts : List (Nat × Value)) (cs : Array Value) (err : Sem Value) (hm : m.run P w = .ok pl w) (hf : Instr.fill (pl[·]?) zero parts = some cs) :
    (do
      let places ← m
      let some cells := Instr.fill (places[·]?) zero parts | err
      Pure.pure (Value.agg cells) : Sem Value).run P w = .ok (.agg cs) w := by
  rw [Sem.run_bind, hm, Result.andThen_ok, hf]
  rfl
theorem rp_hz (w : World) : (zeroValue 77).run Tryd.prog w = .ok (.agg (rpC zP)) w := by kernel_rfl
theorem rpC_sz (a b c : Nat) (t : UInt8) (h s : List UInt8) (e1 : h.length = 32) (e2 : s.length = 64) : (rpC ⟨a, t, b, c, h, s⟩).size = 100 := by simp [rpC, rpL, e1, e2]
theorem rp_fill (p : PkS) (h : p.Ok) : Instr.fill (#[(0, 1), (1, 1), (2, 1), (3, 1), (4, 32), (36, 64)][·]?) (rpC zP) [(0, .int .u32 p.hw), (1, .int .u32 p.ver), (2, .int .u32 p.sz), (3, vb p.ty), (4, .agg (vbs p.hash).toArray), (5, .agg (vbs p.sig).toArray)] = some (rpC p) := by
  have e1 : (vbs p.hash).length = 32 := by simp [h.hash]
  have e2 : (vbs p.sig).length = 64 := by simp [h.sig]
  rw [fill_cons _ _ _ _ _ 0 1 [.int .u32 p.hw] rfl rfl rfl (by rw [show (rpC zP).size = 100 from rpC_sz _ _ _ _ _ _ rfl rfl]; decide) (rpC ⟨p.hw, 0, 0, 0, List.replicate 32 0, List.replicate 64 0⟩) rfl]
  rw [fill_cons _ _ _ _ _ 1 1 [.int .u32 p.ver] rfl rfl rfl (by rw [show (rpC ⟨p.hw, 0, 0, 0, List.replicate 32 0, List.replicate 64 0⟩).size = 100 from rpC_sz _ _ _ _ _ _ rfl rfl]; decide) (rpC ⟨p.hw, 0, p.ver, 0, List.replicate 32 0, List.replicate 64 0⟩) rfl]
  rw [fill_cons _ _ _ _ _ 2 1 [.int .u32 p.sz] rfl rfl rfl (by rw [show (rpC ⟨p.hw, 0, p.ver, 0, List.replicate 32 0, List.replicate 64 0⟩).size = 100 from rpC_sz _ _ _ _ _ _ rfl rfl]; decide) (rpC ⟨p.hw, 0, p.ver, p.sz, List.replicate 32 0, List.replicate 64 0⟩) rfl]
  rw [fill_cons _ _ _ _ _ 3 1 [vb p.ty] rfl rfl rfl (by rw [show (rpC ⟨p.hw, 0, p.ver, p.sz, List.replicate 32 0, List.replicate 64 0⟩).size = 100 from rpC_sz _ _ _ _ _ _ rfl rfl]; decide) (rpC ⟨p.hw, p.ty, p.ver, p.sz, List.replicate 32 0, List.replicate 64 0⟩) rfl]
  rw [fill_cons _ _ _ _ _ 4 32 (vbs p.hash) rfl rfl e1 (by rw [show (rpC ⟨p.hw, p.ty, p.ver, p.sz, List.replicate 32 0, List.replicate 64 0⟩).size = 100 from rpC_sz _ _ _ _ _ _ rfl rfl]; decide) (rpC ⟨p.hw, p.ty, p.ver, p.sz, p.hash, List.replicate 64 0⟩) rfl]
  rw [fill_cons _ _ _ _ _ 36 64 (vbs p.sig) rfl rfl e2 (by rw [show (rpC ⟨p.hw, p.ty, p.ver, p.sz, p.hash, List.replicate 64 0⟩).size = 100 from rpC_sz _ _ _ _ _ _ h.hash rfl]; decide) (rpC p) (by
    show ([Value.int .u32 p.hw, .int .u32 p.ver, .int .u32 p.sz, vb p.ty] ++ (vbs p.hash ++ vbs (List.replicate 64 0))).take 36 ++ vbs p.sig ++ ([Value.int .u32 p.hw, .int .u32 p.ver, .int .u32 p.sz, vb p.ty] ++ (vbs p.hash ++ vbs (List.replicate 64 0))).drop (36 + 64) = [Value.int .u32 p.hw, .int .u32 p.ver, .int .u32 p.sz, vb p.ty] ++ (vbs p.hash ++ vbs p.sig)
    rw [← List.append_assoc [_, _, _, _] (vbs p.hash) (vbs (List.replicate 64 0)), List.take_left' (by simp [h.hash]), List.drop_eq_nil_of_le (by simp [h.hash]), List.append_nil]
    exact List.append_assoc _ _ _)]
  rfl
theorem wpList_build_rp {ops : Array Oper} {rest : List Oper} {o : Oper} {a : Act} {w : World} {Q : Exit → Act → World → Prop} (hgd : o.guard = Option.none) (x0 x1 x2 x3 x4 x5 : Operand) (ho : o.op = .build 77 #[(0, x0), (1, x1), (2, x2), (3, x3), (4, x4), (5, x5)]) (p : PkS) (h : p.Ok)
    (h0 : a.eval x0 = .int .u32 p.hw) (h1 : a.eval x1 = .int .u32 p.ver) (h2 : a.eval x2 = .int .u32 p.sz) (h3 : a.eval x3 = vb p.ty) (h4 : a.eval x4 = .agg (vbs p.hash).toArray) (h5 : a.eval x5 = .agg (vbs p.sig).toArray)
    (hk : wpList Tryd.prog ops Q rest (a.put o.dst (.agg (rpC p))) w) : wpList Tryd.prog ops Q (o :: rest) a w := by
  have hr : (execOp a.eval o).run Tryd.prog w = .ok (.value (.agg (rpC p))) w := by
    have hb : (Instr.build 77 #[(0, .int .u32 p.hw), (1, .int .u32 p.ver), (2, .int .u32 p.sz), (3, vb p.ty), (4, .agg (vbs p.hash).toArray), (5, .agg (vbs p.sig).toArray)]).run Tryd.prog w = .ok (.agg (rpC p)) w := by
      unfold Instr.build
      rw [Sem.run_bind, rp_hz, Result.andThen_ok, Sem.run_bind, run_underlying Tryd.underlying77 w, Result.andThen_ok]
      exact build_step _ _ _ _ _ _ (by kernel_rfl) (rp_fill p h)
    unfold execOp
    rw [ho]
    simp only [List.map_toArray, List.map_cons, List.map_nil, h0, h1, h2, h3, h4, h5]
    rw [Sem.run_bind, hb]
    rfl
  exact wpList_plain hgd fun _ hK => by
    unfold Oper.wp
    simp only [hr]
    exact hK _ _ hk

set_option maxRecDepth 100000 in
set_option maxHeartbeats 4000000 in
theorem of12_any (p : PkS) (hpk : p.Ok) (w : World) :
    Calls Tryd.prog 54 #[.agg (pkC p)] w fun e w' => e = .returned (.agg (rpC p)) ∧ Below w.heap.size w w' := by
  have hur := Tryd.underlying77
  have hud := Tryd.underlying71
  have hus := Tryd.underlying73
  have hsr : (Tryd.prog.info? 77).map (·.size) = some (rpC p).size := by rw [rpC_size hpk]; kernel_rfl
  have hsd : (Tryd.prog.info? 71).map (·.size) = some (vbs p.hash).toArray.size := by rw [show (vbs p.hash).toArray.size = 32 by simp [hpk.hash]]; kernel_rfl
  have hss : (Tryd.prog.info? 73).map (·.size) = some (vbs p.sig).toArray.size := by rw [show (vbs p.sig).toArray.size = 64 by simp [hpk.sig]]; kernel_rfl
  have hg := heap_alloc2_old w (.cells (pkC p) 75) (.cells (rpC zP) 77)
  have hr := heap_alloc2_new w (.cells (pkC p) 75) (.cells (rpC zP) 77)
  have hB : Below w.heap.size w ((w.alloc (.cells (pkC p) 75)).alloc (.cells (rpC zP) 77)) := ((Below.refl _ _).alloc (Nat.le_refl _) _).alloc (by simp) _
  obtain ⟨c0, c1, c2, c3⟩ := pk_cells p _ _ _ hg
  have hla := pk_hash hpk _ _ _ hg
  have hlb := pk_sig hpk _ _ _ hg
  have hz := rp_hz
  have hzz : (rpC zP).size = (rpC p).size := by rw [rpC_size hpk]; rfl
  have hone := rpC_one p
  have HB := hide hB
  have HK := hide hpk
  have Hr := hide hr
  have Hla : Hid (∀ j v, (vbs p.hash).toArray[j]? = some v → ((w.alloc (.cells (pkC p) 75)).alloc (.cells (rpC zP) 77)).cell? ⟨w.heap.size, 4 + j, Option.none⟩ = some v) := hide fun j v h => Lay.cell hla j (by simpa using h)
  have Hlb : Hid (∀ j v, (vbs p.sig).toArray[j]? = some v → ((w.alloc (.cells (pkC p) 75)).alloc (.cells (rpC zP) 77)).cell? ⟨w.heap.size, 36 + j, Option.none⟩ = some v) := hide fun j v h => Lay.cell hlb j (by simpa using h)
  have Hsr := hide hsr
  have Hsd := hide hsd
  have Hss := hide hss
  have Hzz := hide hzz
  have Hone := hide hone
  clear hB hpk hr hla hlb hsr hsd hss hzz hone hg
  have hsz0 : (Tryd.prog.info? 77).map (·.size) = some 100 := by kernel_rfl
  clear hsz0
  go_enter Tryd.func54, Tryd.ntmps54
  generalize hZ : rpC zP = Z at *
  generalize hP : pkC p = CP at *
  go_wp2_with (first
    | (refine wpList_load_part rfl _ _ rfl w.heap.size 4 rfl (vbs p.hash).toArray _ Hla.out hud rfl Hsd.out ?_)
    | (refine wpList_load_part rfl _ _ rfl w.heap.size 36 rfl (vbs p.sig).toArray _ Hlb.out hus rfl Hss.out ?_)
    | (refine wpList_build_rp rfl _ _ _ _ _ _ rfl p HK.out rfl rfl rfl rfl rfl rfl ?_)
    | (refine wpList_store_row rfl _ _ _ rfl (w.heap.size + 1) (rpC p) rfl rfl _ _ Hr.out Hsr.out Hzz.out Hone.out ?_))
  refine bodyPost_ret (v := .agg (rpC p)) (results_cell_row Tryd.results54 _ _ (w.heap.size + 1) _ (rpC p) (0, 0) _ rfl (setRow_heap_same _ _ _ _ _ _ Hr.out) hur rfl Hsr.out) rfl ⟨rfl, below_setRow HB.out (by omega) _⟩
end Go.Proofs.YtgkofpfjbjnhfaaDoor
