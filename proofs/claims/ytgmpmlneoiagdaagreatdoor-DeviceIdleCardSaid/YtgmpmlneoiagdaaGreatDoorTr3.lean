/- transfer: what a keeper keeps. -/
import Derived.Test.YtgmpmlneoiagdaaGreatDoorTr2
namespace Go.Proofs.YtgmpmlneoiagdaaGreatDoor
open Go.ChangeShapes Go.WideShapes Go.ChangeAt Go.RowKit
set_option linter.unusedVariables false
set_option linter.unusedSimpArgs false

/-- the packet, and how much, that a record tells of -/
def RecS.got (s : RecS) : List UInt8 × Nat := if s.phase = 1 then (s.init, s.done) else ([], 0)
def KLoad (s : RecS) (w : World) (e : Ending) (w' : World) : Prop := ∃ v, e = .returned (.tuple #[v, .int .i64 (s.got.2 : Nat)]) ∧ (ownR v s.got.1 * all w).on w' ∧ Str w w'

set_option maxRecDepth 100000 in
set_option maxHeartbeats 16000000 in
theorem kload_any (q p : Nat) (s : RecS) (F : SP) (w : World) (h : (Kp q p s * F).on w) (ok : s.Ok) :
    Calls Tryz.prog 197 #[.pointer (some ⟨q, 0, Option.none⟩)] w (KLoad s w) := by
  have hur := Tryz.underlying31
  have hu32 := Tryz.underlying29
  have hui := Tryz.underlying3
  have hz := rc_hz
  have hR := krecord_any q p s F w h ok
  have hgot : s.got = if s.phase = 1 then (s.init, s.done) else ([], 0) := rfl
  have Hgot := hide hgot
  have Hok := hide ok
  have hdn := ok.done
  clear h ok hgot
  go_enter Tryz.func197, Tryz.ntmps197
  go_wp2_with fail
  refine hR.mono ?_
  clear hR
  rintro e w1 ⟨iv, rfl, ho, hs⟩
  have HoR := hide (rc_one (s := s) (iv := iv) (own_slice ho))
  have HsR := hide (rc_info s iv)
  obtain ⟨oa, oc, rfl, _, _, _, _⟩ := own_value ho
  have h1 := ho.alloc (.cells (recCells zeroS nilV) 31)
  have gN := on_blk_mul h1
  have h2 := h1.setRow (recCells s (.slice oa s.init.length oc))
  have H2 := hide h2
  have S2 := hide ((hs.alloc (.cells (recCells zeroS nilV) 31)).setRow w1.heap.size (recCells s (.slice oa s.init.length oc)))
  clear ho hs h1 h2
  have hstop : ∀ p : Prop, Hid p → p := fun _ h => h.out
  go_wp2_with (refine wpList_store_row rfl _ _ _ rfl w1.heap.size (recCells s (.slice oa s.init.length oc)) rfl rfl _ _ gN HsR.out rfl HoR.out ?_; refine hstop _ ?_)
  refine hide ?_
  clear hstop gN
  generalize (w1.alloc (.cells (recCells zeroS nilV) 31)).setRow w1.heap.size (recCells s (.slice oa s.init.length oc)) = w2 at *
  generalize w1.heap.size = g at *
  have c4 : w2.cell? ⟨g, 4, Option.none⟩ = some (vb s.phase) := cell_of_row w2 g 4 _ _ _ (on_blk_mul H2.out)
  by_cases hp : s.phase = 1
  · have hg : s.got = (s.init, s.done) := by rw [Hgot.out, if_pos hp]
    have Hg := hide hg
    have e1 : (((s.phase.toNat : Nat) : Int) != 1) = false := by rw [hp]; rfl
    clear hg hp
    go_wp2_with fail
    refine wp_region_vs [isV (.pointer (some ⟨g, 6, Option.none⟩)), isV (.slice oa s.init.length oc), isV (.pointer (some ⟨g, 5, Option.none⟩)), isV (u32v s.done), isV (.int .i64 (s.done : Int)), isV (.slice oa s.init.length oc), isV (.int .i64 (s.done : Int))]
      (by kernel_rfl) (by kernel_rfl) rfl ?keep ?todo ?rest
    case keep => exact ⟨Keep.isV _, Keep.isV _, Keep.isV _, Keep.isV _, Keep.isV _, Keep.isV _, Keep.isV _, trivial⟩
    case todo =>
      refine ⟨?_, ?_, ?_, ?_, ?_, ?_, ?_, trivial⟩
      · intro ev X hT hb hk hf
        have e0 : ev (.tmp 4) = .pointer (some ⟨g, 0, Option.none⟩) := hk.1
        exact OpOk.run (v := .pointer (some ⟨g, 6, Option.none⟩)) (W' := X) (by simp [execOp, e0, hur, go_sem]) ⟨rfl, Stay.refl _⟩
      · intro ev X hT hb hk hf
        have e0 : ev (.tmp 10) = .pointer (some ⟨g, 6, Option.none⟩) := hf.1
        have cW : X.cell? ⟨g, 6, Option.none⟩ = some (.slice oa s.init.length oc) := cell_of_row X g 6 _ _ _ (on_blk_mul (H2.out.below hT))
        exact OpOk.run (v := .slice oa s.init.length oc) (W' := X) (by simp [execOp, e0, cW, go_sem]) ⟨rfl, Stay.refl _⟩
      · intro ev X hT hb hk hf
        have e0 : ev (.tmp 4) = .pointer (some ⟨g, 0, Option.none⟩) := hk.1
        exact OpOk.run (v := .pointer (some ⟨g, 5, Option.none⟩)) (W' := X) (by simp [execOp, e0, hur, go_sem]) ⟨rfl, Stay.refl _⟩
      · intro ev X hT hb hk hf
        have e0 : ev (.tmp 12) = .pointer (some ⟨g, 5, Option.none⟩) := hf.1
        have cW : X.cell? ⟨g, 5, Option.none⟩ = some (u32v s.done) := cell_of_row X g 5 _ _ _ (on_blk_mul (H2.out.below hT))
        exact OpOk.run (v := u32v s.done) (W' := X) (by simp [execOp, e0, cW, go_sem]) ⟨rfl, Stay.refl _⟩
      · intro ev X hT hb hk hf
        have e0 : ev (.tmp 13) = u32v s.done := hf.1
        have s9 : IntKind.i64.wrap (s.done : Int) = (s.done : Int) := IntWalk.i64_in _ (by omega)
        exact OpOk.run (v := .int .i64 (s.done : Int)) (W' := X) (by simp [execOp, e0, hb.1, hui, hu32, s9, go_sem]) ⟨rfl, Stay.refl _⟩
      · intro ev X hT hb hk hf
        have e0 : ev (.tmp 11) = .slice oa s.init.length oc := hf.1
        exact OpOk.assign rfl e0 ⟨rfl, Stay.refl _⟩
      · intro ev X hT hb hk hf
        have e0 : ev (.tmp 14) = .int .i64 (s.done : Int) := hf.1
        exact OpOk.assign rfl e0 ⟨rfl, Stay.refl _⟩
    case rest =>
      intro X hX
      rintro _ - _ - _ - _ - _ - _ rfl _ rfl
      have HX := hide (H2.out.below hX)
      have SX := hide (S2.out.trans (Str.below hX))
      clear hX H2 S2 c4
      go_wp2
      refine Rest.done ?_
      go_wp2_with fail
      go_ret2
      unfold KLoad
      rw [Hg.out]
      exact ⟨_, rfl, HX.out.right, SX.out⟩
  · have hg : s.got = ([], 0) := by rw [Hgot.out, if_neg hp]
    have Hg := hide hg
    have e1 : (((s.phase.toNat : Nat) : Int) != 1) = true := by
      have : s.phase.toNat ≠ 1 := fun h => hp (UInt8.toNat_inj.1 h)
      simp; omega
    clear hg hp
    go_wp2_with fail
    go_ret2
    unfold KLoad
    rw [Hg.out]
    exact ⟨nilV, rfl, own_nil _ _ H2.out.right.right, S2.out⟩
end Go.Proofs.YtgmpmlneoiagdaaGreatDoor
