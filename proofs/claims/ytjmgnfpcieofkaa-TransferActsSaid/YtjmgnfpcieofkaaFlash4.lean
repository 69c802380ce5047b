/- A new flash. -/
import Derived.Test.YtjmgnfpcieofkaaFlash3
import Derived.Deep.OwnRows
namespace Go.Proofs.Ytjmgnfpcieofkaa
open Go.ChangeShapes Go.WideShapes Go.ChangeAt Go.RowKit
set_option linter.unusedVariables false

def FlS.new (k : Nat) : FlS := { B := List.replicate (k * 256) 255, worn := List.replicate k 0, steps := 0, lf := 0, lt := 0, off := false, armed := false, left := 0, tear := 0 }
theorem FlS.new_ok (k : Nat) (h1 : 1 ≤ k) (h2 : k ≤ 64) : (FlS.new k).Ok := by
  exact ⟨by simp [FlS.new]; omega, by simp [FlS.new]; omega, by simp [FlS.new], by simp [FlS.new], by simp [FlS.new], by simp [FlS.new]⟩
theorem infoInt : (Try.prog.info? 3).map (fun i => (i.zero, i.size, i.bytes)) = some (some (.int .i64 0), 1, 8) := by kernel_rfl
theorem madeCells_one (z : Value) (n : Nat) : madeCells #[z] n = (List.replicate n z).toArray := by
  apply Array.ext
  · simp [size_madeCells]
  · intro i h1 h2
    simp [madeCells, Nat.mod_one]
def newQ (k : Nat) (v : Value) : SP := ex fun p : Nat => pure (v = .tuple #[fptr p, .int .i64 0]) * Flash p (FlS.new k)

def newCells (gB gI k : Nat) : Array Value := #[.slice (some ⟨gB, 0, Option.none⟩) (k * 256) (k * 256), .slice (some ⟨gI, 0, Option.none⟩) k k, .int .i64 0, .int .i64 0, .int .i64 0, .bool false, .bool false, .int .i64 0, .int .u32 0]
def newMid (w : World) (gB gI p k j : Nat) : SP := blk p (.cells (newCells gB gI k) 96 (0, 0)) * (own 5 1 (.slice (some ⟨gB, 0, Option.none⟩) (k * 256) (k * 256)) (k * 256) (vbs (List.replicate j 255 ++ List.replicate (k * 256 - j) 0)) * (ownInts (.slice (some ⟨gI, 0, Option.none⟩) k k) (List.replicate k 0) * all w))

theorem new_world1 (w : World) (k : Nat) (h2 : k ≤ 64) : ∃ W, W = (((w.alloc (Obj.cells (Array.replicate (k * 256) (Value.int IntKind.u8 0)) 5)).alloc (Obj.cells (Array.replicate k (Value.int IntKind.i64 0)) 3)).alloc (Obj.cells (newCells w.heap.size (w.heap.size + 1) k) 96)).drew ∧
    (newMid w w.heap.size (w.heap.size + 1) (w.heap.size + 1 + 1) k 0).on W ∧ Str w W := by
  refine ⟨_, rfl, ?_, ((((Str.refl w).alloc _).alloc _).alloc _).drew⟩
  have h1 := own_new (F := all w) 5 1 (k * 256) (List.replicate (k * 256) (.int .u8 0)) (on_all w) (by simp) (by unfold maxLen; omega)
  have h3 := own_new 3 1 k (List.replicate k (.int .i64 0)) h1 (by simp) (by unfold maxLen; omega)
  have h4 := h3.alloc (Obj.cells (newCells w.heap.size (w.heap.size + 1) k) 96)
  simp only [World.size_alloc, List.toArray_replicate] at h4
  have h5 := h4.drew
  unfold newMid
  simp only [ownInts, vbs, List.replicate_zero, List.nil_append, Nat.sub_zero, List.map_replicate, List.length_replicate]
  rw [SP.mul_left_comm (own 5 1 _ _ _)]
  exact h5
theorem new_world2 (w : World) (k : Nat) (h2 : k ≤ 64) : ∃ W, W = (((w.alloc (Obj.cells (Array.replicate k (Value.int IntKind.i64 0)) 3)).alloc (Obj.cells (Array.replicate (k * 256) (Value.int IntKind.u8 0)) 5)).alloc (Obj.cells (newCells (w.heap.size + 1) w.heap.size k) 96)).drew ∧
    (newMid w (w.heap.size + 1) w.heap.size (w.heap.size + 1 + 1) k 0).on W ∧ Str w W := by
  refine ⟨_, rfl, ?_, ((((Str.refl w).alloc _).alloc _).alloc _).drew⟩
  have h1 := own_new (F := all w) 3 1 k (List.replicate k (.int .i64 0)) (on_all w) (by simp) (by unfold maxLen; omega)
  have h3 := own_new 5 1 (k * 256) (List.replicate (k * 256) (.int .u8 0)) h1 (by simp) (by unfold maxLen; omega)
  have h4 := h3.alloc (Obj.cells (newCells (w.heap.size + 1) w.heap.size k) 96)
  simp only [World.size_alloc, List.toArray_replicate] at h4
  have h5 := h4.drew
  unfold newMid
  simp only [ownInts, vbs, List.replicate_zero, List.nil_append, Nat.sub_zero, List.map_replicate, List.length_replicate]
  exact h5
theorem newMid_step {w wr : World} {gB gI p k j : Nat} (h : (newMid w gB gI p k j).on wr) (hj : j < k * 256) : (newMid w gB gI p k (j + 1)).on (wr.setCell ⟨gB, j, Option.none⟩ (.int .u8 255)) := by
  unfold newMid at h ⊢
  rw [SP.mul_left_comm] at h
  have h2 := own_store h hj (vb 255)
  rw [vbs_set] at h2
  have e : (List.replicate j (255 : UInt8) ++ List.replicate (k * 256 - j) 0).set j 255 = List.replicate (j + 1) 255 ++ List.replicate (k * 256 - (j + 1)) 0 := by
    rw [List.set_append, if_neg (by simp), List.length_replicate, Nat.sub_self]
    obtain ⟨m, hm⟩ : ∃ m, k * 256 - j = m + 1 := ⟨k * 256 - j - 1, by omega⟩
    rw [hm, List.replicate_succ (n := m), List.set_cons_zero, show k * 256 - (j + 1) = m by omega, List.replicate_succ' (n := j)]
    simp
  rw [e, SP.mul_left_comm] at h2
  exact h2
theorem newMid_done {w wr : World} {gB gI p k : Nat} (h : (newMid w gB gI p k (k * 256)).on wr) : (newQ k (.tuple #[fptr p, .int .i64 0]) * all w).on wr := by
  refine on_ex_mul.2 ⟨p, ?_⟩
  rw [SP.mul_assoc]
  refine on_pure_mul.2 ⟨rfl, Flash.ofParts (vb := .slice (some ⟨gB, 0, Option.none⟩) (k * 256) (k * 256)) (vw := .slice (some ⟨gI, 0, Option.none⟩) k k) ?_⟩
  unfold newMid at h
  simp only [Nat.sub_self, List.replicate_zero, List.append_nil] at h
  simpa [FlS.new, ownBy, ownInts, flCells, newCells] using h

set_option maxRecDepth 100000 in
set_option maxHeartbeats 1000000 in
theorem new_any (k : Nat) (h1 : 1 ≤ k) (h2 : k ≤ 64) (w : World) :
    Calls Try.prog 9 #[.int .i64 k] w (Makes w (newQ k)) := by
  have hmk1 := run_make_row' (P := Try.prog) 33 5 (.int .u8 0) 1 Try.underlying33 infoByte rfl .i64 .i64 (k * 256) (by omega) (by omega)
  have hmk2 := run_make_row' (P := Try.prog) 42 3 (.int .i64 0) 8 Try.underlying42 infoInt rfl .i64 .i64 k (by omega) (by omega)
  have ek : ((k * 256 : Nat) : Int) = (k : Int) * 256 := by omega
  rw [ek] at hmk1
  simp only [madeCells_one] at hmk1 hmk2
  clear ek
  go_enter Try.func9, Try.ntmps9
  go_wp2_with fail
  go_region
  · obtain ⟨w1, hw1, H0, HS⟩ := new_world1 w k h2
    unfold newCells at hw1
    rw [← hw1]
    clear hw1
    generalize w.heap.size + 1 + 1 = p at *
    generalize w.heap.size + 1 = gI at *
    generalize w.heap.size = gB at *
    have c0 : (w1.cell? ⟨p, 0, Option.none⟩) = some (.slice (some ⟨gB, 0, Option.none⟩) (k * 256) (k * 256)) := cell_of_row w1 p 0 _ _ _ (on_blk_mul H0)
    have H0 := hide H0
    have HS := hide HS
    have kl : k * 256 ≤ 16384 := by omega
    clear hmk1 hmk2
    go_wp2_with fail
    go_loopw [24] (fun i wr => ∃ j : Nat, j ≤ k * 256 ∧ i = .int .i64 j ∧ (newMid w gB gI p k j).on wr ∧ Str w wr) (fun i _ => k * 256 - (intOf i).toNat)
    case atStart => exact ⟨0, by omega, rfl, H0.out, HS.out⟩
    case round =>
      obtain ⟨j, hj, rfl, hw, hstr⟩ := hrel
      have c1 : (wr.cell? ⟨p, 0, Option.none⟩) = some (.slice (some ⟨gB, 0, Option.none⟩) (k * 256) (k * 256)) := cell_of_row wr p 0 _ _ _ (on_blk_mul hw)
      by_cases hlt : j < k * 256
      · have hr := hw
        unfold newMid at hr
        obtain ⟨old, hold⟩ : ∃ o : Value, (vbs (List.replicate j 255 ++ List.replicate (k * 256 - j) 0))[j]? = some o := ⟨_, List.getElem?_eq_getElem (by simp; omega)⟩
        have cb := own_cell hr.right j old hold
        have fr := own_free hr.right j
        have H1 := hide (newMid_step hw hlt)
        have Hs := hide (hstr.setCell ⟨gB, j, Option.none⟩ (.int .u8 255))
        clear hr hw hstr hold
        go_wp2_with fail
        exact ⟨⟨j + 1, hlt, by simp, H1.out, Hs.out⟩, by simp [intOf]; omega⟩
      · have hj2 : j = k * 256 := by omega
        have H1 := hide hw
        have Hs := hide hstr
        clear hw hstr
        go_wp2_with fail
        go_ret2
        exact ⟨_, rfl, newMid_done (hj2 ▸ H1.out), Hs.out⟩
  · obtain ⟨w1, hw1, H0, HS⟩ := new_world2 w k h2
    unfold newCells at hw1
    rw [← hw1]
    clear hw1
    generalize w.heap.size + 1 + 1 = p at *
    generalize w.heap.size + 1 = gB at *
    generalize w.heap.size = gI at *
    have c0 : (w1.cell? ⟨p, 0, Option.none⟩) = some (.slice (some ⟨gB, 0, Option.none⟩) (k * 256) (k * 256)) := cell_of_row w1 p 0 _ _ _ (on_blk_mul H0)
    have H0 := hide H0
    have HS := hide HS
    have kl : k * 256 ≤ 16384 := by omega
    clear hmk1 hmk2
    go_wp2_with fail
    go_loopw [24] (fun i wr => ∃ j : Nat, j ≤ k * 256 ∧ i = .int .i64 j ∧ (newMid w gB gI p k j).on wr ∧ Str w wr) (fun i _ => k * 256 - (intOf i).toNat)
    case atStart => exact ⟨0, by omega, rfl, H0.out, HS.out⟩
    case round =>
      obtain ⟨j, hj, rfl, hw, hstr⟩ := hrel
      have c1 : (wr.cell? ⟨p, 0, Option.none⟩) = some (.slice (some ⟨gB, 0, Option.none⟩) (k * 256) (k * 256)) := cell_of_row wr p 0 _ _ _ (on_blk_mul hw)
      by_cases hlt : j < k * 256
      · have hr := hw
        unfold newMid at hr
        obtain ⟨old, hold⟩ : ∃ o : Value, (vbs (List.replicate j 255 ++ List.replicate (k * 256 - j) 0))[j]? = some o := ⟨_, List.getElem?_eq_getElem (by simp; omega)⟩
        have cb := own_cell hr.right j old hold
        have fr := own_free hr.right j
        have H1 := hide (newMid_step hw hlt)
        have Hs := hide (hstr.setCell ⟨gB, j, Option.none⟩ (.int .u8 255))
        clear hr hw hstr hold
        go_wp2_with fail
        exact ⟨⟨j + 1, hlt, by simp, H1.out, Hs.out⟩, by simp [intOf]; omega⟩
      · have hj2 : j = k * 256 := by omega
        have H1 := hide hw
        have Hs := hide hstr
        clear hw hstr
        go_wp2_with fail
        go_ret2
        exact ⟨_, rfl, newMid_done (hj2 ▸ H1.out), Hs.out⟩
end Go.Proofs.Ytjmgnfpcieofkaa
