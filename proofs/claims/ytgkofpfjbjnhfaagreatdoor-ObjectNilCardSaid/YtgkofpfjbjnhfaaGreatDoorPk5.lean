/- The document's packets: their bytes; a packet as the document has it. -/
import Derived.Test.YtgkofpfjbjnhfaaGreatDoorPk4
import Derived.Test.YtgkofpfjbjnhfaaGreatDoorWord12
namespace Go.Proofs.YtgkofpfjbjnhfaaGreatDoor
open Go.ChangeShapes Go.WideShapes Go.ChangeAt Go.RowKit
set_option linter.unusedVariables false
set_option linter.unusedSimpArgs false

theorem rpC_box (p : PkS) (w : World) (t : TypeId) : Below w.heap.size w (w.alloc (.cells (rpC p) t)) := (Below.refl _ _).alloc (Nat.le_refl _) _

/-- what a struct that is built holds: the cells of a part in the place of the former ones -/
theorem foldl_set (off : Nat) : ∀ (l : List Value) (k : Nat) (cs : Array Value), off + k + l.length ≤ cs.size →
    ((l.zipIdx k).foldl (fun cs (x : Value × Nat) => cs.setIfInBounds (off + x.2) x.1) cs).toList = cs.toList.take (off + k) ++ l ++ cs.toList.drop (off + k + l.length)
  | [], k, cs, h => by simp
  | v :: l, k, cs, h => by
    simp only [List.length_cons] at h
    simp only [List.zipIdx_cons, List.foldl_cons]
    rw [foldl_set off l (k + 1) _ (by simp; omega)]
    have hk : off + k < cs.toList.length := by simp; omega
    rw [Array.toList_setIfInBounds, show off + (k + 1) = off + k + 1 by omega, List.take_succ_eq_append_getElem (by simpa using hk)]
    rw [List.take_set_of_le (by omega), List.getElem_set_self, List.drop_set_of_lt (by omega)]
    simp [Nat.add_assoc, Nat.add_comm, Nat.add_left_comm]
theorem fill_cons (place : Nat → Option (Nat × Nat)) (cells : Array Value) (i : Nat) (v : Value) (rest : List (Nat × Value)) (off size : Nat) (l : List Value) (hp : place i = some (off, size)) (hv : v.cells = l.toArray) (hs : l.length = size) (hb : off + size ≤ cells.size) (cs' : Array Value)
    (hc : cells.toList.take off ++ l ++ cells.toList.drop (off + size) = cs'.toList) : Instr.fill place cells ((i, v) :: rest) = Instr.fill place cs' rest := by
  have e : v.cells.zipIdx.foldl (fun cs (x : Value × Nat) => cs.setIfInBounds (off + x.2) x.1) cells = cs' := by
    apply Array.toList_inj.1
    rw [← hc, hv, ← Array.foldl_toList, Array.toList_zipIdx]
    have := foldl_set off l 0 cells (by omega)
    simp only [Nat.add_zero, hs] at this
    exact this
  have h1 : ¬(v.cells.size ≠ size ∨ off + v.cells.size > cells.size) := by rw [hv]; simp; omega
  simp only [Instr.fill, hp]
  split
  · rename_i h2
    simp only [Bool.or_eq_true, decide_eq_true_eq] at h2
    exact absurd (by simpa using h2) h1
  · exact congrArg (Instr.fill place · rest) e

theorem build_step {P : Program} {w : World} (m : Sem (Array (Nat × Nat))) (pl : Array (Nat × Nat)) (zero : Array Value) (parts : List (Nat × Value)) (cs : Array Value) (err : Sem Value) (hm : m.run P w = .ok pl w) (hf : Instr.fill (pl[·]?) zero parts = some cs) :
    (do
      let places ← m
      let some cells := Instr.fill (places[·]?) zero parts | err
      Pure.pure (Value.agg cells) : Sem Value).run P w = .ok (.agg cs) w := by
  rw [Sem.run_bind, hm, Result.andThen_ok, hf]
  rfl
theorem rpC_sz (a b c : Nat) (t : UInt8) (h s : List UInt8) (e1 : h.length = 32) (e2 : s.length = 64) : (rpC ⟨a, t, b, c, h, s⟩).size = 100 := by simp [rpC, rpL, e1, e2]
theorem rp_fill (p : PkS) (h : p.Ok) : Instr.fill (#[(0, 1), (1, 1), (2, 1), (3, 1), (4, 32), (36, 64)][·]?) (rpC zP) [(0, .int .u32 p.hw), (1, .int .u32 p.ver), (2, .int .u32 p.sz), (3, vb p.ty), (4, .agg (vbs p.hash).toArray), (5, .agg (vbs p.sig).toArray)] = some (rpC p) := by
  have e1 : (vbs p.hash).length = 32 := by simp [h.hash]
  have e2 : (vbs p.sig).length = 64 := by simp [h.sig]
  rw [fill_cons _ _ _ _ _ 0 1 [.int .u32 p.hw] rfl rfl rfl (by rw [show (rpC zP).size = 100 from rpC_sz _ _ _ _ _ _ rfl rfl]; decide) (rpC ⟨p.hw, 0, 0, 0, List.replicate 32 0, List.replicate 64 0⟩) rfl]
  rw [fill_cons _ _ _ _ _ 1 1 [.int .u32 p.ver] rfl rfl rfl (by rw [show (rpC ⟨p.hw, 0, 0, 0, List.replicate 32 0, List.replicate 64 0⟩).size = 100 from rpC_sz _ _ _ _ _ _ rfl rfl]; decide) (rpC ⟨p.hw, 0, p.ver, 0, List.replicate 32 0, List.replicate 64 0⟩) rfl]
  rw [fill_cons _ _ _ _ _ 2 1 [.int .u32 p.sz] rfl rfl rfl (by rw [show (rpC ⟨p.hw, 0, p.ver, 0, List.replicate 32 0, List.replicate 64 0⟩).size = 100 from rpC_sz _ _ _ _ _ _ rfl rfl]; decide) (rpC ⟨p.hw, 0, p.ver, p.sz, List.replicate 32 0, List.replicate 64 0⟩) rfl]
  rw [fill_cons _ _ _ _ _ 3 1 [vb p.ty] rfl rfl rfl (by rw [show (rpC ⟨p.hw, 0, p.ver, p.sz, List.replicate 32 0, List.replicate 64 0⟩).size = 100 from rpC_sz _ _ _ _ _ _ rfl rfl]; decide) (rpC ⟨p.hw, p.ty, p.ver, p.sz, List.replicate 32 0, List.replicate 64 0⟩) rfl]
  rw [fill_cons _ _ _ _ _ 4 32 (vbs p.hash) rfl rfl e1 (by rw [show (rpC ⟨p.hw, p.ty, p.ver, p.sz, List.replicate 32 0, List.replicate 64 0⟩).size = 100 from rpC_sz _ _ _ _ _ _ rfl rfl]; decide) (rpC ⟨p.hw, p.ty, p.ver, p.sz, p.hash, List.replicate 64 0⟩) rfl]
  rw [fill_cons _ _ _ _ _ 36 64 (vbs p.sig) rfl rfl e2 (by rw [show (rpC ⟨p.hw, p.ty, p.ver, p.sz, p.hash, List.replicate 64 0⟩).size = 100 from rpC_sz _ _ _ _ _ _ h.hash rfl]; decide) (rpC p) (by
    show ([Value.int .u32 p.hw, .int .u32 p.ver, .int .u32 p.sz, vb p.ty] ++ (vbs p.hash ++ vbs (List.replicate 64 0))).take 36 ++ vbs p.sig ++ ([Value.int .u32 p.hw, .int .u32 p.ver, .int .u32 p.sz, vb p.ty] ++ (vbs p.hash ++ vbs (List.replicate 64 0))).drop (36 + 64) = [Value.int .u32 p.hw, .int .u32 p.ver, .int .u32 p.sz, vb p.ty] ++ (vbs p.hash ++ vbs p.sig)
    rw [← List.append_assoc [_, _, _, _] (vbs p.hash) (vbs (List.replicate 64 0)), List.take_left' (by simp [h.hash]), List.drop_eq_nil_of_le (by simp [h.hash]), List.append_nil]
    exact List.append_assoc _ _ _)]
  rfl
end Go.Proofs.YtgkofpfjbjnhfaaGreatDoor
