/- packet: a packet's cells; its items and their bytes. -/
import Derived.Test.YtgkofpfjbjnhfaaGreatDoorPkMath
import Derived.Test.YtgkofpfjbjnhfaaGreatDoorTlv4
import Derived.Test.YtgkofpfjbjnhfaaGreatDoorPart
namespace Go.Proofs.YtgkofpfjbjnhfaaGreatDoor
open Go.ChangeShapes Go.WideShapes Go.ChangeAt Go.RowKit
set_option linter.unusedVariables false
set_option linter.unusedSimpArgs false

/-- a packet's cells; the document's -/
def pkL (p : PkS) : List Value := [.int .u32 p.hw, vb p.ty, .int .u32 p.ver, .int .u32 p.sz] ++ (vbs p.hash ++ vbs p.sig)
def rpL (p : PkS) : List Value := [.int .u32 p.hw, .int .u32 p.ver, .int .u32 p.sz, vb p.ty] ++ (vbs p.hash ++ vbs p.sig)
def pkC (p : PkS) : Array Value := (pkL p).toArray
def rpC (p : PkS) : Array Value := (rpL p).toArray
theorem pkC_size {p : PkS} (h : p.Ok) : (pkC p).size = 100 := by simp [pkC, pkL, h.hash, h.sig]
theorem rpC_size {p : PkS} (h : p.Ok) : (rpC p).size = 100 := by simp [rpC, rpL, h.hash, h.sig]
theorem pkC_one (p : PkS) : (pkC p).all (·.oneCell') = true := by
  rw [Array.all_eq_true_iff_forall_mem]
  intro x hx
  simp only [pkC, pkL, List.mem_toArray, List.mem_append, List.mem_cons, List.not_mem_nil, or_false, vbs, List.mem_map] at hx
  rcases hx with (rfl | rfl | rfl | rfl) | ⟨y, _, rfl⟩ | ⟨y, _, rfl⟩ <;> rfl
theorem rpC_one (p : PkS) : (rpC p).all (·.oneCell') = true := by
  rw [Array.all_eq_true_iff_forall_mem]
  intro x hx
  simp only [rpC, rpL, List.mem_toArray, List.mem_append, List.mem_cons, List.not_mem_nil, or_false, vbs, List.mem_map] at hx
  rcases hx with (rfl | rfl | rfl | rfl) | ⟨y, _, rfl⟩ | ⟨y, _, rfl⟩ <;> rfl
theorem drop4 (a b c d : Value) (l : List Value) : ([a, b, c, d] ++ l).drop 4 = l := rfl
/-- the hash and the signature lie in the packet's cells -/
theorem pk_hash {p : PkS} (h : p.Ok) (X : World) (g : Nat) (t : TypeId) (hX : X.heap[g]? = some (.cells (pkC p) t (0, 0))) : Lay X (some ⟨g, 4, Option.none⟩) (vbs p.hash) := by
  intro i u hu
  refine ⟨_, _, rfl, ?_⟩
  rw [cell_of_row _ _ _ _ _ _ hX]
  unfold pkC pkL
  rw [List.getElem?_toArray, List.getElem?_append_right (by simp), show 4 + i - [Value.int .u32 p.hw, vb p.ty, .int .u32 p.ver, .int .u32 p.sz].length = i by simp]
  rw [List.getElem?_append_left ((List.getElem?_eq_some_iff.1 hu).1)]
  exact hu
theorem pk_sig {p : PkS} (h : p.Ok) (X : World) (g : Nat) (t : TypeId) (hX : X.heap[g]? = some (.cells (pkC p) t (0, 0))) : Lay X (some ⟨g, 36, Option.none⟩) (vbs p.sig) := by
  intro i u hu
  refine ⟨_, _, rfl, ?_⟩
  rw [cell_of_row _ _ _ _ _ _ hX]
  unfold pkC pkL
  have hl : (vbs p.hash).length = 32 := by simp [vbs, h.hash]
  rw [List.getElem?_toArray, List.getElem?_append_right (by simp; omega), show 36 + i - [Value.int .u32 p.hw, vb p.ty, .int .u32 p.ver, .int .u32 p.sz].length = 32 + i by simp; omega]
  rw [List.getElem?_append_right (by omega), hl, Nat.add_sub_cancel_left]
  exact hu
theorem rp_hash {p : PkS} (h : p.Ok) (X : World) (g : Nat) (t : TypeId) (hX : X.heap[g]? = some (.cells (rpC p) t (0, 0))) : Lay X (some ⟨g, 4, Option.none⟩) (vbs p.hash) := by
  intro i u hu
  refine ⟨_, _, rfl, ?_⟩
  rw [cell_of_row _ _ _ _ _ _ hX]
  unfold rpC rpL
  rw [List.getElem?_toArray, List.getElem?_append_right (by simp), show 4 + i - [Value.int .u32 p.hw, .int .u32 p.ver, .int .u32 p.sz, vb p.ty].length = i by simp]
  rw [List.getElem?_append_left ((List.getElem?_eq_some_iff.1 hu).1)]
  exact hu
theorem rp_sig {p : PkS} (h : p.Ok) (X : World) (g : Nat) (t : TypeId) (hX : X.heap[g]? = some (.cells (rpC p) t (0, 0))) : Lay X (some ⟨g, 36, Option.none⟩) (vbs p.sig) := by
  intro i u hu
  refine ⟨_, _, rfl, ?_⟩
  rw [cell_of_row _ _ _ _ _ _ hX]
  unfold rpC rpL
  have hl : (vbs p.hash).length = 32 := by simp [vbs, h.hash]
  rw [List.getElem?_toArray, List.getElem?_append_right (by simp; omega), show 36 + i - [Value.int .u32 p.hw, .int .u32 p.ver, .int .u32 p.sz, vb p.ty].length = 32 + i by simp; omega]
  rw [List.getElem?_append_right (by omega), hl, Nat.add_sub_cancel_left]
  exact hu
theorem pk_cells (p : PkS) (X : World) (g : Nat) (t : TypeId) (hX : X.heap[g]? = some (.cells (pkC p) t (0, 0))) :
    X.cell? ⟨g, 0, Option.none⟩ = some (.int .u32 p.hw) ∧ X.cell? ⟨g, 1, Option.none⟩ = some (vb p.ty) ∧ X.cell? ⟨g, 2, Option.none⟩ = some (.int .u32 p.ver) ∧ X.cell? ⟨g, 3, Option.none⟩ = some (.int .u32 p.sz) := by
  refine ⟨?_, ?_, ?_, ?_⟩ <;> (rw [cell_of_row _ _ _ _ _ _ hX]; rfl)
theorem rp_cells (p : PkS) (X : World) (g : Nat) (t : TypeId) (hX : X.heap[g]? = some (.cells (rpC p) t (0, 0))) :
    X.cell? ⟨g, 0, Option.none⟩ = some (.int .u32 p.hw) ∧ X.cell? ⟨g, 1, Option.none⟩ = some (.int .u32 p.ver) ∧ X.cell? ⟨g, 2, Option.none⟩ = some (.int .u32 p.sz) ∧ X.cell? ⟨g, 3, Option.none⟩ = some (vb p.ty) := by
  refine ⟨?_, ?_, ?_, ?_⟩ <;> (rw [cell_of_row _ _ _ _ _ _ hX]; rfl)
/-- a whole array of bytes as a slice -/
theorem arr_whole (t : TypeId) (n : Nat) (ht : Tryz.prog.underlying t = some (.array n 5)) (q off : Nat) (X : World) : (Instr.sliceAt t (.pointer (some ⟨q, off, Option.none⟩)) Option.none Option.none Option.none).run Tryz.prog X = .ok (.slice (some ⟨q, off, Option.none⟩) n n) X := by
  have h8 : (sizeOf 5).run Tryz.prog X = .ok 1 X := by
    obtain ⟨i, hq, _, hs, _⟩ := info_some infoT
    simp [sizeOf, typeInfo, hq, hs]
  have e1 : Tryz.prog.arrayLen t = n := by simp [Program.arrayLen, ht]
  have e2 : Tryz.prog.elem t = 5 := by simp [Program.elem, ht]
  have hu : Tryz.prog.underlying t = some (.array (Tryz.prog.arrayLen t) (Tryz.prog.elem t)) := by rw [e1, e2]; exact ht
  rw [run_sliceAt_array_all X _ ⟨q, off, Option.none⟩ hu, e1, e2, h8]
  have e4 : (⟨q, off, Option.none⟩ : Addr).add (0 * 1) = ⟨q, off, Option.none⟩ := by unfold Addr.add; split <;> simp_all
  simp [Result.andThen_ok, slicedAt, e4]

set_option maxRecDepth 100000 in
set_option maxHeartbeats 2000000 in
theorem bytesOf_any (n : Nat) (w : World) : Calls Tryz.prog 77 #[.int .u32 n] w (Makes w fun v => ownT v (wordB n)) := by
  have h := own_new 5 1 4 (vbs (wordB n)) (on_all w) rfl (by decide)
  have hs := (Str.refl w).alloc (.cells (vbs (wordB n)).toArray 5)
  rw [show (vbs (wordB n)).toArray = #[.int .u8 ((n : Int) % 256), .int .u8 ((n : Int) / 256 % 256), .int .u8 ((n : Int) / 65536 % 256), .int .u8 ((n : Int) / 16777216 % 256)] by simp [vbs, wordB, vb, b4_toNat]] at h hs
  have H := hide h
  have HS := hide hs
  clear h hs
  go_enter Tryz.func77, Tryz.ntmps77
  go_wp2_with fail
  go_ret
  exact ⟨_, rfl, H.out, HS.out⟩
end Go.Proofs.YtgkofpfjbjnhfaaGreatDoor
