/- SHA-2 on words of 32 bits: the chapter's example; no hash. -/
import Derived.Test.YtgkofpfjbjnhfaaDoorSha7S
namespace Go.Proofs.YtgkofpfjbjnhfaaDoor
open Go.ChangeShapes Go.WideShapes Go.ChangeAt Go.RowKit
namespace Sha32
set_option linter.unusedVariables false
set_option linter.unusedSimpArgs false

theorem dig_len : Tryd.prog.arrayLen 71 = 32 := by kernel_rfl
theorem dig_elem : Tryd.prog.elem 71 = 5 := by kernel_rfl
theorem dig_under : Tryd.prog.underlying 71 = some (.array (Tryd.prog.arrayLen 71) (Tryd.prog.elem 71)) := by rw [dig_len, dig_elem]; exact Tryd.underlying71
theorem size8 (X : World) : (sizeOf 5).run Tryd.prog X = .ok 1 X := by
  obtain ⟨i, hq, _, hs, _⟩ := info_some info8
  simp [sizeOf, typeInfo, hq, hs]
theorem dig_to (q k : Nat) (hk : k ≤ 32) (X : World) : (Instr.sliceAt 71 (.pointer (some ⟨q, 0, Option.none⟩)) Option.none (some (.int .i64 (k : Int))) Option.none).run Tryd.prog X = .ok (.slice (some ⟨q, 0, Option.none⟩) k 32) X := by
  rw [run_sliceAt_array_h X _ ⟨q, 0, Option.none⟩ dig_under .i64 _ (by omega) (by rw [dig_len]; omega), dig_len, dig_elem, size8]
  have e4 : (⟨q, 0, Option.none⟩ : Addr).add (0 * 1) = ⟨q, 0, Option.none⟩ := by unfold Addr.add; split <;> simp_all
  simp [Result.andThen_ok, slicedAt, e4]
theorem dig_from (q k : Nat) (hk : k < 32) (X : World) : (Instr.sliceAt 71 (.pointer (some ⟨q, 0, Option.none⟩)) (some (.int .i64 (k : Int))) Option.none Option.none).run Tryd.prog X = .ok (.slice (some ⟨q, k, Option.none⟩) (32 - k) (32 - k)) X := by
  rw [run_sliceAt_array_l X _ ⟨q, 0, Option.none⟩ dig_under .i64 _ (by omega) (by rw [dig_len]; omega), dig_len, dig_elem, size8]
  have e4 : (⟨q, 0, Option.none⟩ : Addr).add (k * 1) = ⟨q, k, Option.none⟩ := by unfold Addr.add; split <;> simp_all
  have e3 : ¬32 = k := by omega
  simp only [Result.andThen_ok, slicedAt, Int.toNat_natCast, if_neg e3, e4]
theorem dig_whole (q : Nat) (X : World) : (Instr.sliceAt 71 (.pointer (some ⟨q, 0, Option.none⟩)) Option.none Option.none Option.none).run Tryd.prog X = .ok (.slice (some ⟨q, 0, Option.none⟩) 32 32) X := by
  rw [run_sliceAt_array_all X _ ⟨q, 0, Option.none⟩ dig_under, dig_len, dig_elem, size8]
  have e4 : (⟨q, 0, Option.none⟩ : Addr).add (0 * 1) = ⟨q, 0, Option.none⟩ := by unfold Addr.add; split <;> simp_all
  simp [Result.andThen_ok, slicedAt, e4]
/-- an array of bytes in a block is a row of bytes from any place on -/
theorem bv_lay {F : SP} {w : World} {q : Nat} {l : List UInt8} {t : TypeId} (h : (blk q (.cells (bv l) t (0, 0)) * F).on w) (k : Nat) : Lay w (some ⟨q, k, Option.none⟩) (vbs (l.drop k)) := by
  intro i u hu
  refine ⟨_, _, rfl, ?_⟩
  rw [cell_of_row _ _ _ _ _ _ (on_blk_mul h)]
  unfold bv
  rw [List.getElem?_toArray]
  simpa [vbs, List.getElem?_map, List.getElem?_drop] using hu
theorem bv_lay_to {F : SP} {w : World} {q : Nat} {l : List UInt8} {t : TypeId} (h : (blk q (.cells (bv l) t (0, 0)) * F).on w) (k : Nat) : Lay w (some ⟨q, 0, Option.none⟩) (vbs (l.take k)) := by
  have := (bv_lay h 0).take k
  rw [List.drop_zero] at this
  rwa [← List.map_take] at this

set_option maxRecDepth 100000 in
set_option maxHeartbeats 4000000 in
theorem sum_nil (w : World) : Calls Tryd.prog 101 #[.pointer Option.none] w fun e w' => e = .returned (.agg (bv zD)) ∧ Below w.heap.size w w' := by
  have hzd : ∀ w, (zeroValue 71).run Tryd.prog w = .ok (.agg (bv zD)) w := fun w => by kernel_rfl
  have hud := Tryd.underlying71
  have h2 := ((on_all w).alloc (.cells (bv zD) 71)).alloc (.cells (bv zD) 71)
  simp only [World.size_alloc] at h2
  have Hd := hide (on_blk_mul h2)
  have Hr := hide (on_blk_mul h2.right)
  have HsD : Hid ((Tryd.prog.info? 71).map (·.size) = some (bv zD).size) := hide (by kernel_rfl)
  have HoD := hide (bv_one zD)
  have HzD : Hid ((bv zD).size = (bv zD).size) := hide rfl
  have HB := hide (((Below.refl w.heap.size w).alloc (Nat.le_refl _) (.cells (bv zD) 71)).alloc (by simp) (.cells (bv zD) 71))
  clear h2
  generalize bv zD = Z at *
  go_enter Tryd.func101, Tryd.ntmps101
  go_wp2_with (first
    | (refine wpList_load_row rfl _ _ rfl (w.heap.size + 1) rfl _ Z _ _ Hd.out hud rfl HsD.out ?_)
    | (refine wpList_store_row rfl _ _ _ rfl w.heap.size Z rfl rfl _ _ Hr.out HsD.out HzD.out HoD.out ?_))
  refine bodyPost_ret (v := .agg Z) (results_cell_row Tryd.results101 _ _ w.heap.size _ Z (0, 0) _ rfl (setRow_heap_same _ _ _ _ _ _ Hr.out) hud rfl HsD.out) rfl ?_
  exact ⟨rfl, below_setRow HB.out (Nat.le_refl _) _⟩
end Sha32
end Go.Proofs.YtgkofpfjbjnhfaaDoor
