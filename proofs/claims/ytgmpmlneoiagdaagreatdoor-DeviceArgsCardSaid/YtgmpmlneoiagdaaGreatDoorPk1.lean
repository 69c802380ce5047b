/- packet: a packet's cells; its items and their bytes. -/
import Derived.Test.YtgmpmlneoiagdaaGreatDoorPkMath
import Derived.Test.YtgmpmlneoiagdaaGreatDoorTlv4
import Derived.Test.YtgmpmlneoiagdaaGreatDoorGBase2
namespace Go.Proofs.YtgmpmlneoiagdaaGreatDoor
open Go.ChangeShapes Go.WideShapes Go.ChangeAt Go.RowKit
set_option linter.unusedVariables false
set_option linter.unusedSimpArgs false

/-- a packet's cells; the document's -/
def pkL (p : PkS) : List Value := [.int .u32 p.hw, vb p.ty, .int .u32 p.ver, .int .u32 p.sz] ++ (vbs p.hash ++ vbs p.sig)
def pkC (p : PkS) : Array Value := (pkL p).toArray
theorem pkC_size {p : PkS} (h : p.Ok) : (pkC p).size = 100 := by simp [pkC, pkL, h.hash, h.sig]
theorem pkC_one (p : PkS) : (pkC p).all (·.oneCell') = true := by
  rw [Array.all_eq_true_iff_forall_mem]
  intro x hx
  simp only [pkC, pkL, List.mem_toArray, List.mem_append, List.mem_cons, List.not_mem_nil, or_false, vbs, List.mem_map] at hx
  rcases hx with (rfl | rfl | rfl | rfl) | ⟨y, _, rfl⟩ | ⟨y, _, rfl⟩ <;> rfl
theorem pk_cells (p : PkS) (X : World) (g : Nat) (t : TypeId) (hX : X.heap[g]? = some (.cells (pkC p) t (0, 0))) :
    X.cell? ⟨g, 0, Option.none⟩ = some (.int .u32 p.hw) ∧ X.cell? ⟨g, 1, Option.none⟩ = some (vb p.ty) ∧ X.cell? ⟨g, 2, Option.none⟩ = some (.int .u32 p.ver) ∧ X.cell? ⟨g, 3, Option.none⟩ = some (.int .u32 p.sz) := by
  refine ⟨?_, ?_, ?_, ?_⟩ <;> (rw [cell_of_row _ _ _ _ _ _ hX]; rfl)
/-- a whole array of bytes as a slice -/
theorem arr_whole (t : TypeId) (n : Nat) (ht : Tryz.prog.underlying t = some (.array n 5)) (q off : Nat) (X : World) : (Instr.sliceAt t (.pointer (some ⟨q, off, Option.none⟩)) Option.none Option.none Option.none).run Tryz.prog X = .ok (.slice (some ⟨q, off, Option.none⟩) n n) X := by
  have h8 : (sizeOf 5).run Tryz.prog X = .ok 1 X := by
    obtain ⟨i, hq, _, hs, _⟩ := info_some infoT
    simp [sizeOf, typeInfo, hq, hs]
  have e1 : Tryz.prog.arrayLen t = n := by simp [Program.arrayLen, ht]
  have e2 : Tryz.prog.elem t = 5 := by simp [Program.elem, ht]
  have hu : Tryz.prog.underlying t = some (.array (Tryz.prog.arrayLen t) (Tryz.prog.elem t)) := by rw [e1, e2]; exact ht
  rw [run_sliceAt_array_all X _ ⟨q, off, Option.none⟩ hu, e1, e2, h8]
  have e4 : (⟨q, off, Option.none⟩ : Addr).add (0 * 1) = ⟨q, off, Option.none⟩ := by unfold Addr.add; split <;> simp_all
  simp [Result.andThen_ok, slicedAt, e4]

end Go.Proofs.YtgmpmlneoiagdaaGreatDoor
