/- transfer: what a keeper remembers. -/
import Derived.Test.YtgmpmlneoiagdaaGreatDoorTr1
namespace Go.Proofs.YtgmpmlneoiagdaaGreatDoor
open Go.ChangeShapes Go.WideShapes Go.ChangeAt Go.RowKit
set_option linter.unusedVariables false
set_option linter.unusedSimpArgs false

theorem kp_part (p : Nat) (s : RecS) (iv : Value) (X : World) (g : Nat) (t : TypeId) (hX : X.heap[g]? = some (.cells (kpCells p s iv) t (0, 0))) : ∀ j v, (recCells s iv)[j]? = some v → X.cell? ⟨g, 2 + j, Option.none⟩ = some v := by
  intro j v hv
  rw [cell_of_row _ _ _ _ _ _ hX]
  unfold recCells at hv
  unfold kpCells
  match j, hv with
  | 0, hv => exact hv
  | 1, hv => exact hv
  | 2, hv => exact hv
  | 3, hv => exact hv
  | 4, hv => exact hv
  | 5, hv => exact hv
  | 6, hv => exact hv
  | n + 7, hv => simp at hv
/-- a record that a call makes -/
def RecQ (s : RecS) (w : World) (e : Ending) (w' : World) : Prop := ∃ iv, e = .returned (.agg (recCells s iv)) ∧ (ownR iv s.init * all w).on w' ∧ Str w w'

set_option maxRecDepth 100000 in
set_option maxHeartbeats 16000000 in
theorem krecord_any (q p : Nat) (s : RecS) (F : SP) (w : World) (h : (Kp q p s * F).on w) (ok : s.Ok) :
    Calls Tryz.prog 200 #[.pointer (some ⟨q, 0, Option.none⟩)] w (RecQ s w) := by
  have hur := Tryz.underlying31
  have hu8 := Tryz.underlying22
  have hz := rc_hz
  obtain ⟨iv, h⟩ := Kp.open h
  obtain ⟨ai, ci, rfl, _, _, _, _⟩ := own_value h.right
  have hq := on_blk_mul h
  have hib := own_bytes h.right
  have h1 := ((on_all w).alloc (.cells (recCells zeroS nilV) 31)).alloc (.cells (recCells zeroS nilV) 31)
  have s1 := (((Str.refl w).alloc (.cells (recCells zeroS nilV) 31)).alloc (.cells (recCells zeroS nilV) 31))
  simp only [World.size_alloc] at h1
  have gN := on_blk_mul h1
  have h2 := h1.setRow (recCells s (.slice ai s.init.length ci))
  have H2 := hide h2
  have S2 := hide (s1.setRow (w.heap.size + 1) (recCells s (.slice ai s.init.length ci)))
  have HB2 := hide (all_below h2.right.right S2.out)
  have Hib := hide hib
  have hpart := kp_part p s (.slice ai s.init.length ci) (((w.alloc (.cells (recCells zeroS nilV) 31)).alloc (.cells (recCells zeroS nilV) 31))) q _ (by
    have hb : Below w.heap.size w ((w.alloc (.cells (recCells zeroS nilV) 31)).alloc (.cells (recCells zeroS nilV) 31)) := all_below h1.right.right s1
    exact (hb.block q (Array.getElem?_eq_some_iff.1 hq).1).trans hq)
  have hpart0 := kp_part p s (.slice ai s.init.length ci) ((w.alloc (.cells (recCells zeroS nilV) 31))) q _ (by
    have hb : Below w.heap.size w (w.alloc (.cells (recCells zeroS nilV) 31)) := all_below ((on_all w).alloc _).right ((Str.refl w).alloc _)
    exact (hb.block q (Array.getElem?_eq_some_iff.1 hq).1).trans hq)
  have HsR := hide (rc_info s (.slice ai s.init.length ci))
  have HoR := hide (rc_one (s := s) (iv := .slice ai s.init.length ci) ⟨_, _, _, rfl⟩)
  have Hok := hide ok
  have hlt := (Array.getElem?_eq_some_iff.1 hq).1
  clear h h1 s1 h2 hib hq ok
  go_enter Tryz.func200, Tryz.ntmps200
  have hstop : ∀ p : Prop, Hid p → p := fun _ h => h.out
  go_wp2_with (first
    | (refine wpList_load_part rfl _ _ rfl q 2 rfl (recCells s (.slice ai s.init.length ci)) _ hpart0 hur rfl HsR.out ?_)
    | (refine wpList_load_part rfl _ _ rfl q 2 rfl (recCells s (.slice ai s.init.length ci)) _ hpart hur rfl HsR.out ?_)
    | (refine wpList_store_row rfl _ _ _ rfl (w.heap.size + 1) (recCells s (.slice ai s.init.length ci)) rfl rfl _ _ gN HsR.out rfl HoR.out ?_; refine hstop _ ?_))
  refine hide ?_
  clear hstop hpart hpart0 gN
  generalize ((w.alloc (.cells (recCells zeroS nilV) 31)).alloc (.cells (recCells zeroS nilV) 31)).setRow (w.heap.size + 1) (recCells s (.slice ai s.init.length ci)) = w2 at *
  have c6 := cell_of_row w2 (w.heap.size + 1) 6 _ _ _ (on_blk_mul H2.out)
  have Hib2 := hide (Hib.out.below HB2.out)
  have hstop : ∀ p : Prop, Hid p → p := fun _ h => h.out
  go_wp2_with (at_builtin; refine wpList_append_bytes (F := all w2) rfl _ _ 22 rfl 5 hu8 infoByte _ [] s.init rfl (own_nil _ _ (on_all w2)) _ rfl Hib2.out (by have := Hok.out.init; simp; omega) ?_; intro v2 w3 ho2 hs2; rw [List.nil_append] at ho2; obtain ⟨oa2, oc2, rfl, _, _, _, _⟩ := own_value ho2; have h3 := on_all_to ho2 H2.out; rw [SP.mul_left_comm] at h3; have H3 := hide h3; have S3 := hide (S2.out.trans hs2); have c6b := cell_of_row w3 (w.heap.size + 1) 6 _ _ _ (on_blk_mul h3); have fr := frozen_of_row w3 (w.heap.size + 1) 6 _ _ (on_blk_mul h3); have h7 := h3.setCell (i := 6) (.slice oa2 s.init.length oc2); rw [rc_init] at h7; have H7 := hide h7; have S7 := hide (S3.out.setCell ⟨w.heap.size + 1, 6, Option.none⟩ (.slice oa2 s.init.length oc2)); have g7 := on_blk_mul h7; have gZ := on_blk_mul h7.right.right; have HsR2 := hide (rc_info s (.slice oa2 s.init.length oc2)); have HoR2 := hide (rc_one (s := s) (iv := .slice oa2 s.init.length oc2) ⟨_, _, _, rfl⟩); clear h3 h7 ho2 hs2; refine hstop _ ?_)
  refine hide ?_
  have H8 := hide (show (ownR (.slice oa2 s.init.length oc2) s.init * all w).on _ from by
    have h9 := H7.out.right
    rw [SP.mul_left_comm] at h9
    exact (h9.setRow (recCells s (.slice oa2 s.init.length oc2))).right)
  have S8 := hide (S7.out.setRow w.heap.size (recCells s (.slice oa2 s.init.length oc2)))
  clear hstop H3 S3 H7 S7 c6 H2 S2
  go_wp2_with (first
    | (refine wpList_load_row rfl _ _ rfl (w.heap.size + 1) rfl _ (recCells s (.slice oa2 s.init.length oc2)) _ _ g7 hur rfl HsR2.out ?_)
    | (refine wpList_store_row rfl _ _ _ rfl w.heap.size (recCells s (.slice oa2 s.init.length oc2)) rfl rfl _ _ gZ HsR2.out rfl HoR2.out ?_))
  refine bodyPost_ret (v := .agg (recCells s (.slice oa2 s.init.length oc2))) (results_cell_row Tryz.results200 _ _ w.heap.size _ (recCells s (.slice oa2 s.init.length oc2)) (0, 0) _ rfl (setRow_heap_same _ _ _ _ _ _ gZ) hur rfl HsR2.out) rfl ?_
  exact ⟨_, rfl, H8.out, S8.out⟩
end Go.Proofs.YtgmpmlneoiagdaaGreatDoor
