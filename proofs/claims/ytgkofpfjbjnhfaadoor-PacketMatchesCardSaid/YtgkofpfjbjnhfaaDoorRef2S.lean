/- SHA-2 on words of 32 bits: the document's sums of turns; its tables. -/
import Derived.Test.YtgkofpfjbjnhfaaDoorRef1S
namespace Go.Proofs.YtgkofpfjbjnhfaaDoor
open Go.ChangeShapes Go.WideShapes Go.ChangeAt Go.RowKit
namespace Sha32
set_option linter.unusedVariables false
set_option linter.unusedSimpArgs false

theorem xorw (x y : UInt32) : bits .xor .u64 ((x.toNat : Nat) : Int) ((y.toNat : Nat) : Int) = (((x ^^^ y).toNat : Nat) : Int) := by
  have h1 := UInt32.toNat_lt x
  have h2 := UInt32.toNat_lt y
  rw [u64_xor_nat _ _ (by omega) (by omega), UInt32.toNat_xor]

set_option maxRecDepth 100000 in
set_option maxHeartbeats 8000000 in
theorem rbig0_any (x : UInt32) (w : World) : Calls Tryd.prog 98 #[.agg fc, w64 x, .agg (tc 2 13 22)] w fun e w' => e = .returned (w64 (big0 x)) ∧ Below w.heap.size w w' := by
  have hu := Tryd.underlying112
  have hs : (Tryd.prog.info? 112).map (·.size) = some fc.size := by kernel_rfl
  have hw2 := ((on_all w).alloc (.cells fc 112)).alloc (.cells (tc 2 13 22) 110)
  simp only [World.size_alloc] at hw2
  have HB : Hid (∀ X, Stay ((w.alloc (.cells fc 112)).alloc (.cells (tc 2 13 22) 110)) X → X.heap[w.heap.size]? = some (.cells fc 112 (0, 0))) := hide fun X hT => on_blk_mul (hw2.below hT).right
  have CT0 : Hid (∀ X, Stay ((w.alloc (.cells fc 112)).alloc (.cells (tc 2 13 22) 110)) X → X.cell? ⟨w.heap.size + 1, 0, Option.none⟩ = some (.int .i64 2)) := hide fun X hT => cell_of_blk (hw2.below hT) 0 rfl
  have CT1 : Hid (∀ X, Stay ((w.alloc (.cells fc 112)).alloc (.cells (tc 2 13 22) 110)) X → X.cell? ⟨w.heap.size + 1, 1, Option.none⟩ = some (.int .i64 13)) := hide fun X hT => cell_of_blk (hw2.below hT) 1 rfl
  have CT2 : Hid (∀ X, Stay ((w.alloc (.cells fc 112)).alloc (.cells (tc 2 13 22) 110)) X → X.cell? ⟨w.heap.size + 1, 2, Option.none⟩ = some (.int .i64 22)) := hide fun X hT => cell_of_blk (hw2.below hT) 2 rfl
  have hshr := shr_n x 22 (by decide)
  have HSh := hide hshr
  clear hw2 hshr
  go_enter Tryd.func98, Tryd.ntmps98
  go_wp2_with fail
  have hshr := HSh.out
  refine wp_region_vs [isV (.agg fc), isV (w64 x), isV (.pointer (some ⟨w.heap.size + 1, 0, Option.none⟩)), isV (.int .i64 2), isV (w64 (rotr x 2)), isV (.agg fc), isV (w64 x), isV (.pointer (some ⟨w.heap.size + 1, 1, Option.none⟩)), isV (.int .i64 13), isV (w64 (rotr x 13)), isV (w64 ((rotr x 2) ^^^ (rotr x 13))), isV (.agg fc), isV (w64 x), isV (.pointer (some ⟨w.heap.size + 1, 2, Option.none⟩)), isV (.int .i64 22), isV (w64 (rotr x 22)), isV (w64 (((rotr x 2) ^^^ (rotr x 13)) ^^^ (rotr x 22))), isV (w64 (((rotr x 2) ^^^ (rotr x 13)) ^^^ (rotr x 22)))]
    (by kernel_rfl) (by kernel_rfl) rfl ?keep ?todo ?rest
  case keep => exact ⟨Keep.isV _, Keep.isV _, Keep.isV _, Keep.isV _, Keep.isV _, Keep.isV _, Keep.isV _, Keep.isV _, Keep.isV _, Keep.isV _, Keep.isV _, Keep.isV _, Keep.isV _, Keep.isV _, Keep.isV _, Keep.isV _, Keep.isV _, Keep.isV _, trivial⟩
  case todo =>
    refine ⟨?_, ?_, ?_, ?_, ?_, ?_, ?_, ?_, ?_, ?_, ?_, ?_, ?_, ?_, ?_, ?_, ?_, ?_, trivial⟩
    · intro ev X hT hb hk hf
      have e0 : ev (.tmp 3) = .pointer (some ⟨w.heap.size, 0, Option.none⟩) := hk.1
      exact OpOk.load_part _ _ rfl w.heap.size 0 e0 fc _ (part_of (HB.out X hT)) hu rfl hs ⟨rfl, Stay.refl _⟩
    · intro ev X hT hb hk hf
      have e0 : ev (.tmp 1) = w64 x := hk.1
      exact OpOk.move rfl e0 ⟨rfl, Stay.refl _⟩
    · intro ev X hT hb hk hf
      have e0 : ev (.tmp 5) = .pointer (some ⟨w.heap.size + 1, 0, Option.none⟩) := hk.1
      exact OpOk.run (v := .pointer (some ⟨w.heap.size + 1, 0, Option.none⟩)) (W' := X) (by simp [execOp, e0, hb.1, go_sem]) ⟨rfl, Stay.refl _⟩
    · intro ev X hT hb hk hf
      have e0 : ev (.tmp 9) = .pointer (some ⟨w.heap.size + 1, 0, Option.none⟩) := hf.1
      have cW := CT0.out X hT
      exact OpOk.run (v := .int .i64 2) (W' := X) (by simp [execOp, e0, cW, go_sem]) ⟨rfl, Stay.refl _⟩
    · intro ev X hT hb hk hf
      have e0 : ev (.tmp 7) = .agg fc := hf.1
      have e1 : ev (.tmp 8) = w64 x := hf.2.1
      have e2 : ev (.tmp 10) = .int .i64 2 := hf.2.2.1
      refine OpOk.enters (f := 107) (args := #[.agg fc, w64 x, .int .i64 ((2 : Nat) : Int)]) (W' := X) (by simp [execOp, resolve, invoke, e0, e1, e2, hb.1, hb.2.1, go_sem]) ((turn_any x 2 (by decide) X).mono ?_)
      rintro e X2 ⟨rfl, h2⟩
      exact ⟨_, rfl, rfl, h2⟩
    · intro ev X hT hb hk hf
      have e0 : ev (.tmp 3) = .pointer (some ⟨w.heap.size, 0, Option.none⟩) := hk.1
      exact OpOk.load_part _ _ rfl w.heap.size 0 e0 fc _ (part_of (HB.out X hT)) hu rfl hs ⟨rfl, Stay.refl _⟩
    · intro ev X hT hb hk hf
      have e0 : ev (.tmp 1) = w64 x := hk.1
      exact OpOk.move rfl e0 ⟨rfl, Stay.refl _⟩
    · intro ev X hT hb hk hf
      have e0 : ev (.tmp 5) = .pointer (some ⟨w.heap.size + 1, 0, Option.none⟩) := hk.1
      exact OpOk.run (v := .pointer (some ⟨w.heap.size + 1, 1, Option.none⟩)) (W' := X) (by simp [execOp, e0, hb.1, go_sem]) ⟨rfl, Stay.refl _⟩
    · intro ev X hT hb hk hf
      have e0 : ev (.tmp 14) = .pointer (some ⟨w.heap.size + 1, 1, Option.none⟩) := hf.1
      have cW := CT1.out X hT
      exact OpOk.run (v := .int .i64 13) (W' := X) (by simp [execOp, e0, cW, go_sem]) ⟨rfl, Stay.refl _⟩
    · intro ev X hT hb hk hf
      have e0 : ev (.tmp 12) = .agg fc := hf.1
      have e1 : ev (.tmp 13) = w64 x := hf.2.1
      have e2 : ev (.tmp 15) = .int .i64 13 := hf.2.2.1
      refine OpOk.enters (f := 107) (args := #[.agg fc, w64 x, .int .i64 ((13 : Nat) : Int)]) (W' := X) (by simp [execOp, resolve, invoke, e0, e1, e2, hb.1, hb.2.1, go_sem]) ((turn_any x 13 (by decide) X).mono ?_)
      rintro e X2 ⟨rfl, h2⟩
      exact ⟨_, rfl, rfl, h2⟩
    · intro ev X hT hb hk hf
      have e0 : ev (.tmp 11) = w64 (rotr x 2) := hf.1
      have e1 : ev (.tmp 16) = w64 (rotr x 13) := hf.2.1
      exact OpOk.run (v := w64 ((rotr x 2) ^^^ (rotr x 13))) (W' := X) (by simp [execOp, e0, e1, hb.1, xorw, -UInt32.toNat_add, -UInt32.toNat_xor, -UInt32.toNat_and, -UInt32.toNat_or, -UInt32.toNat_not, -UInt32.toNat_shiftRight, -UInt32.toNat_shiftLeft, go_sem]) ⟨rfl, Stay.refl _⟩
    · intro ev X hT hb hk hf
      have e0 : ev (.tmp 3) = .pointer (some ⟨w.heap.size, 0, Option.none⟩) := hk.1
      exact OpOk.load_part _ _ rfl w.heap.size 0 e0 fc _ (part_of (HB.out X hT)) hu rfl hs ⟨rfl, Stay.refl _⟩
    · intro ev X hT hb hk hf
      have e0 : ev (.tmp 1) = w64 x := hk.1
      exact OpOk.move rfl e0 ⟨rfl, Stay.refl _⟩
    · intro ev X hT hb hk hf
      have e0 : ev (.tmp 5) = .pointer (some ⟨w.heap.size + 1, 0, Option.none⟩) := hk.1
      exact OpOk.run (v := .pointer (some ⟨w.heap.size + 1, 2, Option.none⟩)) (W' := X) (by simp [execOp, e0, hb.1, go_sem]) ⟨rfl, Stay.refl _⟩
    · intro ev X hT hb hk hf
      have e0 : ev (.tmp 20) = .pointer (some ⟨w.heap.size + 1, 2, Option.none⟩) := hf.1
      have cW := CT2.out X hT
      exact OpOk.run (v := .int .i64 22) (W' := X) (by simp [execOp, e0, cW, go_sem]) ⟨rfl, Stay.refl _⟩
    · intro ev X hT hb hk hf
      have e0 : ev (.tmp 18) = .agg fc := hf.1
      have e1 : ev (.tmp 19) = w64 x := hf.2.1
      have e2 : ev (.tmp 21) = .int .i64 22 := hf.2.2.1
      refine OpOk.enters (f := 107) (args := #[.agg fc, w64 x, .int .i64 ((22 : Nat) : Int)]) (W' := X) (by simp [execOp, resolve, invoke, e0, e1, e2, hb.1, hb.2.1, go_sem]) ((turn_any x 22 (by decide) X).mono ?_)
      rintro e X2 ⟨rfl, h2⟩
      exact ⟨_, rfl, rfl, h2⟩
    · intro ev X hT hb hk hf
      have e0 : ev (.tmp 17) = w64 ((rotr x 2) ^^^ (rotr x 13)) := hf.1
      have e1 : ev (.tmp 22) = w64 (rotr x 22) := hf.2.1
      exact OpOk.run (v := w64 (((rotr x 2) ^^^ (rotr x 13)) ^^^ (rotr x 22))) (W' := X) (by simp [execOp, e0, e1, hb.1, xorw, -UInt32.toNat_add, -UInt32.toNat_xor, -UInt32.toNat_and, -UInt32.toNat_or, -UInt32.toNat_not, -UInt32.toNat_shiftRight, -UInt32.toNat_shiftLeft, go_sem]) ⟨rfl, Stay.refl _⟩
    · intro ev X hT hb hk hf
      have e0 : ev (.tmp 23) = w64 (((rotr x 2) ^^^ (rotr x 13)) ^^^ (rotr x 22)) := hf.1
      exact OpOk.assign rfl e0 ⟨rfl, Stay.refl _⟩
  case rest =>
    intro X hT
    rintro _ rfl _ rfl _ rfl _ rfl _ rfl _ rfl _ rfl _ rfl _ rfl _ rfl _ rfl _ rfl _ rfl _ rfl _ rfl _ rfl _ rfl _ rfl
    have HBB := hide (Below.trans (((Below.refl w.heap.size w).alloc (Nat.le_refl _) (.cells fc 112)).alloc (by simp) (.cells (tc 2 13 22) 110)) (hT.mono (by simp; omega)))
    clear hT hshr
    go_wp2
    refine Rest.done ?_
    go_wp2_with fail
    go_ret
    exact ⟨rfl, HBB.out⟩

set_option maxRecDepth 100000 in
set_option maxHeartbeats 8000000 in
theorem rbig1_any (x : UInt32) (w : World) : Calls Tryd.prog 98 #[.agg fc, w64 x, .agg (tc 6 11 25)] w fun e w' => e = .returned (w64 (big1 x)) ∧ Below w.heap.size w w' := by
  have hu := Tryd.underlying112
  have hs : (Tryd.prog.info? 112).map (·.size) = some fc.size := by kernel_rfl
  have hw2 := ((on_all w).alloc (.cells fc 112)).alloc (.cells (tc 6 11 25) 110)
  simp only [World.size_alloc] at hw2
  have HB : Hid (∀ X, Stay ((w.alloc (.cells fc 112)).alloc (.cells (tc 6 11 25) 110)) X → X.heap[w.heap.size]? = some (.cells fc 112 (0, 0))) := hide fun X hT => on_blk_mul (hw2.below hT).right
  have CT0 : Hid (∀ X, Stay ((w.alloc (.cells fc 112)).alloc (.cells (tc 6 11 25) 110)) X → X.cell? ⟨w.heap.size + 1, 0, Option.none⟩ = some (.int .i64 6)) := hide fun X hT => cell_of_blk (hw2.below hT) 0 rfl
  have CT1 : Hid (∀ X, Stay ((w.alloc (.cells fc 112)).alloc (.cells (tc 6 11 25) 110)) X → X.cell? ⟨w.heap.size + 1, 1, Option.none⟩ = some (.int .i64 11)) := hide fun X hT => cell_of_blk (hw2.below hT) 1 rfl
  have CT2 : Hid (∀ X, Stay ((w.alloc (.cells fc 112)).alloc (.cells (tc 6 11 25) 110)) X → X.cell? ⟨w.heap.size + 1, 2, Option.none⟩ = some (.int .i64 25)) := hide fun X hT => cell_of_blk (hw2.below hT) 2 rfl
  have hshr := shr_n x 25 (by decide)
  have HSh := hide hshr
  clear hw2 hshr
  go_enter Tryd.func98, Tryd.ntmps98
  go_wp2_with fail
  have hshr := HSh.out
  refine wp_region_vs [isV (.agg fc), isV (w64 x), isV (.pointer (some ⟨w.heap.size + 1, 0, Option.none⟩)), isV (.int .i64 6), isV (w64 (rotr x 6)), isV (.agg fc), isV (w64 x), isV (.pointer (some ⟨w.heap.size + 1, 1, Option.none⟩)), isV (.int .i64 11), isV (w64 (rotr x 11)), isV (w64 ((rotr x 6) ^^^ (rotr x 11))), isV (.agg fc), isV (w64 x), isV (.pointer (some ⟨w.heap.size + 1, 2, Option.none⟩)), isV (.int .i64 25), isV (w64 (rotr x 25)), isV (w64 (((rotr x 6) ^^^ (rotr x 11)) ^^^ (rotr x 25))), isV (w64 (((rotr x 6) ^^^ (rotr x 11)) ^^^ (rotr x 25)))]
    (by kernel_rfl) (by kernel_rfl) rfl ?keep ?todo ?rest
  case keep => exact ⟨Keep.isV _, Keep.isV _, Keep.isV _, Keep.isV _, Keep.isV _, Keep.isV _, Keep.isV _, Keep.isV _, Keep.isV _, Keep.isV _, Keep.isV _, Keep.isV _, Keep.isV _, Keep.isV _, Keep.isV _, Keep.isV _, Keep.isV _, Keep.isV _, trivial⟩
  case todo =>
    refine ⟨?_, ?_, ?_, ?_, ?_, ?_, ?_, ?_, ?_, ?_, ?_, ?_, ?_, ?_, ?_, ?_, ?_, ?_, trivial⟩
    · intro ev X hT hb hk hf
      have e0 : ev (.tmp 3) = .pointer (some ⟨w.heap.size, 0, Option.none⟩) := hk.1
      exact OpOk.load_part _ _ rfl w.heap.size 0 e0 fc _ (part_of (HB.out X hT)) hu rfl hs ⟨rfl, Stay.refl _⟩
    · intro ev X hT hb hk hf
      have e0 : ev (.tmp 1) = w64 x := hk.1
      exact OpOk.move rfl e0 ⟨rfl, Stay.refl _⟩
    · intro ev X hT hb hk hf
      have e0 : ev (.tmp 5) = .pointer (some ⟨w.heap.size + 1, 0, Option.none⟩) := hk.1
      exact OpOk.run (v := .pointer (some ⟨w.heap.size + 1, 0, Option.none⟩)) (W' := X) (by simp [execOp, e0, hb.1, go_sem]) ⟨rfl, Stay.refl _⟩
    · intro ev X hT hb hk hf
      have e0 : ev (.tmp 9) = .pointer (some ⟨w.heap.size + 1, 0, Option.none⟩) := hf.1
      have cW := CT0.out X hT
      exact OpOk.run (v := .int .i64 6) (W' := X) (by simp [execOp, e0, cW, go_sem]) ⟨rfl, Stay.refl _⟩
    · intro ev X hT hb hk hf
      have e0 : ev (.tmp 7) = .agg fc := hf.1
      have e1 : ev (.tmp 8) = w64 x := hf.2.1
      have e2 : ev (.tmp 10) = .int .i64 6 := hf.2.2.1
      refine OpOk.enters (f := 107) (args := #[.agg fc, w64 x, .int .i64 ((6 : Nat) : Int)]) (W' := X) (by simp [execOp, resolve, invoke, e0, e1, e2, hb.1, hb.2.1, go_sem]) ((turn_any x 6 (by decide) X).mono ?_)
      rintro e X2 ⟨rfl, h2⟩
      exact ⟨_, rfl, rfl, h2⟩
    · intro ev X hT hb hk hf
      have e0 : ev (.tmp 3) = .pointer (some ⟨w.heap.size, 0, Option.none⟩) := hk.1
      exact OpOk.load_part _ _ rfl w.heap.size 0 e0 fc _ (part_of (HB.out X hT)) hu rfl hs ⟨rfl, Stay.refl _⟩
    · intro ev X hT hb hk hf
      have e0 : ev (.tmp 1) = w64 x := hk.1
      exact OpOk.move rfl e0 ⟨rfl, Stay.refl _⟩
    · intro ev X hT hb hk hf
      have e0 : ev (.tmp 5) = .pointer (some ⟨w.heap.size + 1, 0, Option.none⟩) := hk.1
      exact OpOk.run (v := .pointer (some ⟨w.heap.size + 1, 1, Option.none⟩)) (W' := X) (by simp [execOp, e0, hb.1, go_sem]) ⟨rfl, Stay.refl _⟩
    · intro ev X hT hb hk hf
      have e0 : ev (.tmp 14) = .pointer (some ⟨w.heap.size + 1, 1, Option.none⟩) := hf.1
      have cW := CT1.out X hT
      exact OpOk.run (v := .int .i64 11) (W' := X) (by simp [execOp, e0, cW, go_sem]) ⟨rfl, Stay.refl _⟩
    · intro ev X hT hb hk hf
      have e0 : ev (.tmp 12) = .agg fc := hf.1
      have e1 : ev (.tmp 13) = w64 x := hf.2.1
      have e2 : ev (.tmp 15) = .int .i64 11 := hf.2.2.1
      refine OpOk.enters (f := 107) (args := #[.agg fc, w64 x, .int .i64 ((11 : Nat) : Int)]) (W' := X) (by simp [execOp, resolve, invoke, e0, e1, e2, hb.1, hb.2.1, go_sem]) ((turn_any x 11 (by decide) X).mono ?_)
      rintro e X2 ⟨rfl, h2⟩
      exact ⟨_, rfl, rfl, h2⟩
    · intro ev X hT hb hk hf
      have e0 : ev (.tmp 11) = w64 (rotr x 6) := hf.1
      have e1 : ev (.tmp 16) = w64 (rotr x 11) := hf.2.1
      exact OpOk.run (v := w64 ((rotr x 6) ^^^ (rotr x 11))) (W' := X) (by simp [execOp, e0, e1, hb.1, xorw, -UInt32.toNat_add, -UInt32.toNat_xor, -UInt32.toNat_and, -UInt32.toNat_or, -UInt32.toNat_not, -UInt32.toNat_shiftRight, -UInt32.toNat_shiftLeft, go_sem]) ⟨rfl, Stay.refl _⟩
    · intro ev X hT hb hk hf
      have e0 : ev (.tmp 3) = .pointer (some ⟨w.heap.size, 0, Option.none⟩) := hk.1
      exact OpOk.load_part _ _ rfl w.heap.size 0 e0 fc _ (part_of (HB.out X hT)) hu rfl hs ⟨rfl, Stay.refl _⟩
    · intro ev X hT hb hk hf
      have e0 : ev (.tmp 1) = w64 x := hk.1
      exact OpOk.move rfl e0 ⟨rfl, Stay.refl _⟩
    · intro ev X hT hb hk hf
      have e0 : ev (.tmp 5) = .pointer (some ⟨w.heap.size + 1, 0, Option.none⟩) := hk.1
      exact OpOk.run (v := .pointer (some ⟨w.heap.size + 1, 2, Option.none⟩)) (W' := X) (by simp [execOp, e0, hb.1, go_sem]) ⟨rfl, Stay.refl _⟩
    · intro ev X hT hb hk hf
      have e0 : ev (.tmp 20) = .pointer (some ⟨w.heap.size + 1, 2, Option.none⟩) := hf.1
      have cW := CT2.out X hT
      exact OpOk.run (v := .int .i64 25) (W' := X) (by simp [execOp, e0, cW, go_sem]) ⟨rfl, Stay.refl _⟩
    · intro ev X hT hb hk hf
      have e0 : ev (.tmp 18) = .agg fc := hf.1
      have e1 : ev (.tmp 19) = w64 x := hf.2.1
      have e2 : ev (.tmp 21) = .int .i64 25 := hf.2.2.1
      refine OpOk.enters (f := 107) (args := #[.agg fc, w64 x, .int .i64 ((25 : Nat) : Int)]) (W' := X) (by simp [execOp, resolve, invoke, e0, e1, e2, hb.1, hb.2.1, go_sem]) ((turn_any x 25 (by decide) X).mono ?_)
      rintro e X2 ⟨rfl, h2⟩
      exact ⟨_, rfl, rfl, h2⟩
    · intro ev X hT hb hk hf
      have e0 : ev (.tmp 17) = w64 ((rotr x 6) ^^^ (rotr x 11)) := hf.1
      have e1 : ev (.tmp 22) = w64 (rotr x 25) := hf.2.1
      exact OpOk.run (v := w64 (((rotr x 6) ^^^ (rotr x 11)) ^^^ (rotr x 25))) (W' := X) (by simp [execOp, e0, e1, hb.1, xorw, -UInt32.toNat_add, -UInt32.toNat_xor, -UInt32.toNat_and, -UInt32.toNat_or, -UInt32.toNat_not, -UInt32.toNat_shiftRight, -UInt32.toNat_shiftLeft, go_sem]) ⟨rfl, Stay.refl _⟩
    · intro ev X hT hb hk hf
      have e0 : ev (.tmp 23) = w64 (((rotr x 6) ^^^ (rotr x 11)) ^^^ (rotr x 25)) := hf.1
      exact OpOk.assign rfl e0 ⟨rfl, Stay.refl _⟩
  case rest =>
    intro X hT
    rintro _ rfl _ rfl _ rfl _ rfl _ rfl _ rfl _ rfl _ rfl _ rfl _ rfl _ rfl _ rfl _ rfl _ rfl _ rfl _ rfl _ rfl _ rfl
    have HBB := hide (Below.trans (((Below.refl w.heap.size w).alloc (Nat.le_refl _) (.cells fc 112)).alloc (by simp) (.cells (tc 6 11 25) 110)) (hT.mono (by simp; omega)))
    clear hT hshr
    go_wp2
    refine Rest.done ?_
    go_wp2_with fail
    go_ret
    exact ⟨rfl, HBB.out⟩

set_option maxRecDepth 100000 in
set_option maxHeartbeats 8000000 in
theorem rsmall0_any (x : UInt32) (w : World) : Calls Tryd.prog 96 #[.agg fc, w64 x, .agg (tc 7 18 3)] w fun e w' => e = .returned (w64 (small0 x)) ∧ Below w.heap.size w w' := by
  have hu := Tryd.underlying112
  have hs : (Tryd.prog.info? 112).map (·.size) = some fc.size := by kernel_rfl
  have hw2 := ((on_all w).alloc (.cells fc 112)).alloc (.cells (tc 7 18 3) 110)
  simp only [World.size_alloc] at hw2
  have HB : Hid (∀ X, Stay ((w.alloc (.cells fc 112)).alloc (.cells (tc 7 18 3) 110)) X → X.heap[w.heap.size]? = some (.cells fc 112 (0, 0))) := hide fun X hT => on_blk_mul (hw2.below hT).right
  have CT0 : Hid (∀ X, Stay ((w.alloc (.cells fc 112)).alloc (.cells (tc 7 18 3) 110)) X → X.cell? ⟨w.heap.size + 1, 0, Option.none⟩ = some (.int .i64 7)) := hide fun X hT => cell_of_blk (hw2.below hT) 0 rfl
  have CT1 : Hid (∀ X, Stay ((w.alloc (.cells fc 112)).alloc (.cells (tc 7 18 3) 110)) X → X.cell? ⟨w.heap.size + 1, 1, Option.none⟩ = some (.int .i64 18)) := hide fun X hT => cell_of_blk (hw2.below hT) 1 rfl
  have CT2 : Hid (∀ X, Stay ((w.alloc (.cells fc 112)).alloc (.cells (tc 7 18 3) 110)) X → X.cell? ⟨w.heap.size + 1, 2, Option.none⟩ = some (.int .i64 3)) := hide fun X hT => cell_of_blk (hw2.below hT) 2 rfl
  have hshr : ((x.toNat : Nat) : Int) / (8 : Int) = (((x >>> 3).toNat : Nat) : Int) := shr_n x 3 (by decide)
  have HSh := hide hshr
  clear hw2 hshr
  go_enter Tryd.func96, Tryd.ntmps96
  go_wp2_with fail
  have hshr := HSh.out
  refine wp_region_vs [isV (.agg fc), isV (w64 x), isV (.pointer (some ⟨w.heap.size + 1, 0, Option.none⟩)), isV (.int .i64 7), isV (w64 (rotr x 7)), isV (.agg fc), isV (w64 x), isV (.pointer (some ⟨w.heap.size + 1, 1, Option.none⟩)), isV (.int .i64 18), isV (w64 (rotr x 18)), isV (w64 ((rotr x 7) ^^^ (rotr x 18))), isV (w64 x), isV (.pointer (some ⟨w.heap.size + 1, 2, Option.none⟩)), isV (.int .i64 3), isV (w64 (x >>> 3)), isV (w64 (((rotr x 7) ^^^ (rotr x 18)) ^^^ (x >>> 3))), isV (w64 (((rotr x 7) ^^^ (rotr x 18)) ^^^ (x >>> 3)))]
    (by kernel_rfl) (by kernel_rfl) rfl ?keep ?todo ?rest
  case keep => exact ⟨Keep.isV _, Keep.isV _, Keep.isV _, Keep.isV _, Keep.isV _, Keep.isV _, Keep.isV _, Keep.isV _, Keep.isV _, Keep.isV _, Keep.isV _, Keep.isV _, Keep.isV _, Keep.isV _, Keep.isV _, Keep.isV _, Keep.isV _, trivial⟩
  case todo =>
    refine ⟨?_, ?_, ?_, ?_, ?_, ?_, ?_, ?_, ?_, ?_, ?_, ?_, ?_, ?_, ?_, ?_, ?_, trivial⟩
    · intro ev X hT hb hk hf
      have e0 : ev (.tmp 3) = .pointer (some ⟨w.heap.size, 0, Option.none⟩) := hk.1
      exact OpOk.load_part _ _ rfl w.heap.size 0 e0 fc _ (part_of (HB.out X hT)) hu rfl hs ⟨rfl, Stay.refl _⟩
    · intro ev X hT hb hk hf
      have e0 : ev (.tmp 1) = w64 x := hk.1
      exact OpOk.move rfl e0 ⟨rfl, Stay.refl _⟩
    · intro ev X hT hb hk hf
      have e0 : ev (.tmp 5) = .pointer (some ⟨w.heap.size + 1, 0, Option.none⟩) := hk.1
      exact OpOk.run (v := .pointer (some ⟨w.heap.size + 1, 0, Option.none⟩)) (W' := X) (by simp [execOp, e0, hb.1, go_sem]) ⟨rfl, Stay.refl _⟩
    · intro ev X hT hb hk hf
      have e0 : ev (.tmp 9) = .pointer (some ⟨w.heap.size + 1, 0, Option.none⟩) := hf.1
      have cW := CT0.out X hT
      exact OpOk.run (v := .int .i64 7) (W' := X) (by simp [execOp, e0, cW, go_sem]) ⟨rfl, Stay.refl _⟩
    · intro ev X hT hb hk hf
      have e0 : ev (.tmp 7) = .agg fc := hf.1
      have e1 : ev (.tmp 8) = w64 x := hf.2.1
      have e2 : ev (.tmp 10) = .int .i64 7 := hf.2.2.1
      refine OpOk.enters (f := 107) (args := #[.agg fc, w64 x, .int .i64 ((7 : Nat) : Int)]) (W' := X) (by simp [execOp, resolve, invoke, e0, e1, e2, hb.1, hb.2.1, go_sem]) ((turn_any x 7 (by decide) X).mono ?_)
      rintro e X2 ⟨rfl, h2⟩
      exact ⟨_, rfl, rfl, h2⟩
    · intro ev X hT hb hk hf
      have e0 : ev (.tmp 3) = .pointer (some ⟨w.heap.size, 0, Option.none⟩) := hk.1
      exact OpOk.load_part _ _ rfl w.heap.size 0 e0 fc _ (part_of (HB.out X hT)) hu rfl hs ⟨rfl, Stay.refl _⟩
    · intro ev X hT hb hk hf
      have e0 : ev (.tmp 1) = w64 x := hk.1
      exact OpOk.move rfl e0 ⟨rfl, Stay.refl _⟩
    · intro ev X hT hb hk hf
      have e0 : ev (.tmp 5) = .pointer (some ⟨w.heap.size + 1, 0, Option.none⟩) := hk.1
      exact OpOk.run (v := .pointer (some ⟨w.heap.size + 1, 1, Option.none⟩)) (W' := X) (by simp [execOp, e0, hb.1, go_sem]) ⟨rfl, Stay.refl _⟩
    · intro ev X hT hb hk hf
      have e0 : ev (.tmp 14) = .pointer (some ⟨w.heap.size + 1, 1, Option.none⟩) := hf.1
      have cW := CT1.out X hT
      exact OpOk.run (v := .int .i64 18) (W' := X) (by simp [execOp, e0, cW, go_sem]) ⟨rfl, Stay.refl _⟩
    · intro ev X hT hb hk hf
      have e0 : ev (.tmp 12) = .agg fc := hf.1
      have e1 : ev (.tmp 13) = w64 x := hf.2.1
      have e2 : ev (.tmp 15) = .int .i64 18 := hf.2.2.1
      refine OpOk.enters (f := 107) (args := #[.agg fc, w64 x, .int .i64 ((18 : Nat) : Int)]) (W' := X) (by simp [execOp, resolve, invoke, e0, e1, e2, hb.1, hb.2.1, go_sem]) ((turn_any x 18 (by decide) X).mono ?_)
      rintro e X2 ⟨rfl, h2⟩
      exact ⟨_, rfl, rfl, h2⟩
    · intro ev X hT hb hk hf
      have e0 : ev (.tmp 11) = w64 (rotr x 7) := hf.1
      have e1 : ev (.tmp 16) = w64 (rotr x 18) := hf.2.1
      exact OpOk.run (v := w64 ((rotr x 7) ^^^ (rotr x 18))) (W' := X) (by simp [execOp, e0, e1, hb.1, xorw, -UInt32.toNat_add, -UInt32.toNat_xor, -UInt32.toNat_and, -UInt32.toNat_or, -UInt32.toNat_not, -UInt32.toNat_shiftRight, -UInt32.toNat_shiftLeft, go_sem]) ⟨rfl, Stay.refl _⟩
    · intro ev X hT hb hk hf
      have e0 : ev (.tmp 1) = w64 x := hk.1
      exact OpOk.move rfl e0 ⟨rfl, Stay.refl _⟩
    · intro ev X hT hb hk hf
      have e0 : ev (.tmp 5) = .pointer (some ⟨w.heap.size + 1, 0, Option.none⟩) := hk.1
      exact OpOk.run (v := .pointer (some ⟨w.heap.size + 1, 2, Option.none⟩)) (W' := X) (by simp [execOp, e0, hb.1, go_sem]) ⟨rfl, Stay.refl _⟩
    · intro ev X hT hb hk hf
      have e0 : ev (.tmp 19) = .pointer (some ⟨w.heap.size + 1, 2, Option.none⟩) := hf.1
      have cW := CT2.out X hT
      exact OpOk.run (v := .int .i64 3) (W' := X) (by simp [execOp, e0, cW, go_sem]) ⟨rfl, Stay.refl _⟩
    · intro ev X hT hb hk hf
      have e0 : ev (.tmp 18) = w64 x := hf.1
      have e1 : ev (.tmp 20) = .int .i64 3 := hf.2.1
      exact OpOk.run (v := w64 (x >>> 3)) (W' := X) (by simp [execOp, e0, e1, hb.1, hshr, -UInt32.toNat_add, -UInt32.toNat_xor, -UInt32.toNat_and, -UInt32.toNat_or, -UInt32.toNat_not, -UInt32.toNat_shiftRight, -UInt32.toNat_shiftLeft, go_sem]) ⟨rfl, Stay.refl _⟩
    · intro ev X hT hb hk hf
      have e0 : ev (.tmp 17) = w64 ((rotr x 7) ^^^ (rotr x 18)) := hf.1
      have e1 : ev (.tmp 21) = w64 (x >>> 3) := hf.2.1
      exact OpOk.run (v := w64 (((rotr x 7) ^^^ (rotr x 18)) ^^^ (x >>> 3))) (W' := X) (by simp [execOp, e0, e1, hb.1, xorw, -UInt32.toNat_add, -UInt32.toNat_xor, -UInt32.toNat_and, -UInt32.toNat_or, -UInt32.toNat_not, -UInt32.toNat_shiftRight, -UInt32.toNat_shiftLeft, go_sem]) ⟨rfl, Stay.refl _⟩
    · intro ev X hT hb hk hf
      have e0 : ev (.tmp 22) = w64 (((rotr x 7) ^^^ (rotr x 18)) ^^^ (x >>> 3)) := hf.1
      exact OpOk.assign rfl e0 ⟨rfl, Stay.refl _⟩
  case rest =>
    intro X hT
    rintro _ rfl _ rfl _ rfl _ rfl _ rfl _ rfl _ rfl _ rfl _ rfl _ rfl _ rfl _ rfl _ rfl _ rfl _ rfl _ rfl _ rfl
    have HBB := hide (Below.trans (((Below.refl w.heap.size w).alloc (Nat.le_refl _) (.cells fc 112)).alloc (by simp) (.cells (tc 7 18 3) 110)) (hT.mono (by simp; omega)))
    clear hT hshr
    go_wp2
    refine Rest.done ?_
    go_wp2_with fail
    go_ret
    exact ⟨rfl, HBB.out⟩

set_option maxRecDepth 100000 in
set_option maxHeartbeats 8000000 in
theorem rsmall1_any (x : UInt32) (w : World) : Calls Tryd.prog 96 #[.agg fc, w64 x, .agg (tc 17 19 10)] w fun e w' => e = .returned (w64 (small1 x)) ∧ Below w.heap.size w w' := by
  have hu := Tryd.underlying112
  have hs : (Tryd.prog.info? 112).map (·.size) = some fc.size := by kernel_rfl
  have hw2 := ((on_all w).alloc (.cells fc 112)).alloc (.cells (tc 17 19 10) 110)
  simp only [World.size_alloc] at hw2
  have HB : Hid (∀ X, Stay ((w.alloc (.cells fc 112)).alloc (.cells (tc 17 19 10) 110)) X → X.heap[w.heap.size]? = some (.cells fc 112 (0, 0))) := hide fun X hT => on_blk_mul (hw2.below hT).right
  have CT0 : Hid (∀ X, Stay ((w.alloc (.cells fc 112)).alloc (.cells (tc 17 19 10) 110)) X → X.cell? ⟨w.heap.size + 1, 0, Option.none⟩ = some (.int .i64 17)) := hide fun X hT => cell_of_blk (hw2.below hT) 0 rfl
  have CT1 : Hid (∀ X, Stay ((w.alloc (.cells fc 112)).alloc (.cells (tc 17 19 10) 110)) X → X.cell? ⟨w.heap.size + 1, 1, Option.none⟩ = some (.int .i64 19)) := hide fun X hT => cell_of_blk (hw2.below hT) 1 rfl
  have CT2 : Hid (∀ X, Stay ((w.alloc (.cells fc 112)).alloc (.cells (tc 17 19 10) 110)) X → X.cell? ⟨w.heap.size + 1, 2, Option.none⟩ = some (.int .i64 10)) := hide fun X hT => cell_of_blk (hw2.below hT) 2 rfl
  have hshr : ((x.toNat : Nat) : Int) / (1024 : Int) = (((x >>> 10).toNat : Nat) : Int) := shr_n x 10 (by decide)
  have HSh := hide hshr
  clear hw2 hshr
  go_enter Tryd.func96, Tryd.ntmps96
  go_wp2_with fail
  have hshr := HSh.out
  refine wp_region_vs [isV (.agg fc), isV (w64 x), isV (.pointer (some ⟨w.heap.size + 1, 0, Option.none⟩)), isV (.int .i64 17), isV (w64 (rotr x 17)), isV (.agg fc), isV (w64 x), isV (.pointer (some ⟨w.heap.size + 1, 1, Option.none⟩)), isV (.int .i64 19), isV (w64 (rotr x 19)), isV (w64 ((rotr x 17) ^^^ (rotr x 19))), isV (w64 x), isV (.pointer (some ⟨w.heap.size + 1, 2, Option.none⟩)), isV (.int .i64 10), isV (w64 (x >>> 10)), isV (w64 (((rotr x 17) ^^^ (rotr x 19)) ^^^ (x >>> 10))), isV (w64 (((rotr x 17) ^^^ (rotr x 19)) ^^^ (x >>> 10)))]
    (by kernel_rfl) (by kernel_rfl) rfl ?keep ?todo ?rest
  case keep => exact ⟨Keep.isV _, Keep.isV _, Keep.isV _, Keep.isV _, Keep.isV _, Keep.isV _, Keep.isV _, Keep.isV _, Keep.isV _, Keep.isV _, Keep.isV _, Keep.isV _, Keep.isV _, Keep.isV _, Keep.isV _, Keep.isV _, Keep.isV _, trivial⟩
  case todo =>
    refine ⟨?_, ?_, ?_, ?_, ?_, ?_, ?_, ?_, ?_, ?_, ?_, ?_, ?_, ?_, ?_, ?_, ?_, trivial⟩
    · intro ev X hT hb hk hf
      have e0 : ev (.tmp 3) = .pointer (some ⟨w.heap.size, 0, Option.none⟩) := hk.1
      exact OpOk.load_part _ _ rfl w.heap.size 0 e0 fc _ (part_of (HB.out X hT)) hu rfl hs ⟨rfl, Stay.refl _⟩
    · intro ev X hT hb hk hf
      have e0 : ev (.tmp 1) = w64 x := hk.1
      exact OpOk.move rfl e0 ⟨rfl, Stay.refl _⟩
    · intro ev X hT hb hk hf
      have e0 : ev (.tmp 5) = .pointer (some ⟨w.heap.size + 1, 0, Option.none⟩) := hk.1
      exact OpOk.run (v := .pointer (some ⟨w.heap.size + 1, 0, Option.none⟩)) (W' := X) (by simp [execOp, e0, hb.1, go_sem]) ⟨rfl, Stay.refl _⟩
    · intro ev X hT hb hk hf
      have e0 : ev (.tmp 9) = .pointer (some ⟨w.heap.size + 1, 0, Option.none⟩) := hf.1
      have cW := CT0.out X hT
      exact OpOk.run (v := .int .i64 17) (W' := X) (by simp [execOp, e0, cW, go_sem]) ⟨rfl, Stay.refl _⟩
    · intro ev X hT hb hk hf
      have e0 : ev (.tmp 7) = .agg fc := hf.1
      have e1 : ev (.tmp 8) = w64 x := hf.2.1
      have e2 : ev (.tmp 10) = .int .i64 17 := hf.2.2.1
      refine OpOk.enters (f := 107) (args := #[.agg fc, w64 x, .int .i64 ((17 : Nat) : Int)]) (W' := X) (by simp [execOp, resolve, invoke, e0, e1, e2, hb.1, hb.2.1, go_sem]) ((turn_any x 17 (by decide) X).mono ?_)
      rintro e X2 ⟨rfl, h2⟩
      exact ⟨_, rfl, rfl, h2⟩
    · intro ev X hT hb hk hf
      have e0 : ev (.tmp 3) = .pointer (some ⟨w.heap.size, 0, Option.none⟩) := hk.1
      exact OpOk.load_part _ _ rfl w.heap.size 0 e0 fc _ (part_of (HB.out X hT)) hu rfl hs ⟨rfl, Stay.refl _⟩
    · intro ev X hT hb hk hf
      have e0 : ev (.tmp 1) = w64 x := hk.1
      exact OpOk.move rfl e0 ⟨rfl, Stay.refl _⟩
    · intro ev X hT hb hk hf
      have e0 : ev (.tmp 5) = .pointer (some ⟨w.heap.size + 1, 0, Option.none⟩) := hk.1
      exact OpOk.run (v := .pointer (some ⟨w.heap.size + 1, 1, Option.none⟩)) (W' := X) (by simp [execOp, e0, hb.1, go_sem]) ⟨rfl, Stay.refl _⟩
    · intro ev X hT hb hk hf
      have e0 : ev (.tmp 14) = .pointer (some ⟨w.heap.size + 1, 1, Option.none⟩) := hf.1
      have cW := CT1.out X hT
      exact OpOk.run (v := .int .i64 19) (W' := X) (by simp [execOp, e0, cW, go_sem]) ⟨rfl, Stay.refl _⟩
    · intro ev X hT hb hk hf
      have e0 : ev (.tmp 12) = .agg fc := hf.1
      have e1 : ev (.tmp 13) = w64 x := hf.2.1
      have e2 : ev (.tmp 15) = .int .i64 19 := hf.2.2.1
      refine OpOk.enters (f := 107) (args := #[.agg fc, w64 x, .int .i64 ((19 : Nat) : Int)]) (W' := X) (by simp [execOp, resolve, invoke, e0, e1, e2, hb.1, hb.2.1, go_sem]) ((turn_any x 19 (by decide) X).mono ?_)
      rintro e X2 ⟨rfl, h2⟩
      exact ⟨_, rfl, rfl, h2⟩
    · intro ev X hT hb hk hf
      have e0 : ev (.tmp 11) = w64 (rotr x 17) := hf.1
      have e1 : ev (.tmp 16) = w64 (rotr x 19) := hf.2.1
      exact OpOk.run (v := w64 ((rotr x 17) ^^^ (rotr x 19))) (W' := X) (by simp [execOp, e0, e1, hb.1, xorw, -UInt32.toNat_add, -UInt32.toNat_xor, -UInt32.toNat_and, -UInt32.toNat_or, -UInt32.toNat_not, -UInt32.toNat_shiftRight, -UInt32.toNat_shiftLeft, go_sem]) ⟨rfl, Stay.refl _⟩
    · intro ev X hT hb hk hf
      have e0 : ev (.tmp 1) = w64 x := hk.1
      exact OpOk.move rfl e0 ⟨rfl, Stay.refl _⟩
    · intro ev X hT hb hk hf
      have e0 : ev (.tmp 5) = .pointer (some ⟨w.heap.size + 1, 0, Option.none⟩) := hk.1
      exact OpOk.run (v := .pointer (some ⟨w.heap.size + 1, 2, Option.none⟩)) (W' := X) (by simp [execOp, e0, hb.1, go_sem]) ⟨rfl, Stay.refl _⟩
    · intro ev X hT hb hk hf
      have e0 : ev (.tmp 19) = .pointer (some ⟨w.heap.size + 1, 2, Option.none⟩) := hf.1
      have cW := CT2.out X hT
      exact OpOk.run (v := .int .i64 10) (W' := X) (by simp [execOp, e0, cW, go_sem]) ⟨rfl, Stay.refl _⟩
    · intro ev X hT hb hk hf
      have e0 : ev (.tmp 18) = w64 x := hf.1
      have e1 : ev (.tmp 20) = .int .i64 10 := hf.2.1
      exact OpOk.run (v := w64 (x >>> 10)) (W' := X) (by simp [execOp, e0, e1, hb.1, hshr, -UInt32.toNat_add, -UInt32.toNat_xor, -UInt32.toNat_and, -UInt32.toNat_or, -UInt32.toNat_not, -UInt32.toNat_shiftRight, -UInt32.toNat_shiftLeft, go_sem]) ⟨rfl, Stay.refl _⟩
    · intro ev X hT hb hk hf
      have e0 : ev (.tmp 17) = w64 ((rotr x 17) ^^^ (rotr x 19)) := hf.1
      have e1 : ev (.tmp 21) = w64 (x >>> 10) := hf.2.1
      exact OpOk.run (v := w64 (((rotr x 17) ^^^ (rotr x 19)) ^^^ (x >>> 10))) (W' := X) (by simp [execOp, e0, e1, hb.1, xorw, -UInt32.toNat_add, -UInt32.toNat_xor, -UInt32.toNat_and, -UInt32.toNat_or, -UInt32.toNat_not, -UInt32.toNat_shiftRight, -UInt32.toNat_shiftLeft, go_sem]) ⟨rfl, Stay.refl _⟩
    · intro ev X hT hb hk hf
      have e0 : ev (.tmp 22) = w64 (((rotr x 17) ^^^ (rotr x 19)) ^^^ (x >>> 10)) := hf.1
      exact OpOk.assign rfl e0 ⟨rfl, Stay.refl _⟩
  case rest =>
    intro X hT
    rintro _ rfl _ rfl _ rfl _ rfl _ rfl _ rfl _ rfl _ rfl _ rfl _ rfl _ rfl _ rfl _ rfl _ rfl _ rfl _ rfl _ rfl
    have HBB := hide (Below.trans (((Below.refl w.heap.size w).alloc (Nat.le_refl _) (.cells fc 112)).alloc (by simp) (.cells (tc 17 19 10) 110)) (hT.mono (by simp; omega)))
    clear hT hshr
    go_wp2
    refine Rest.done ?_
    go_wp2_with fail
    go_ret
    exact ⟨rfl, HBB.out⟩
end Sha32
end Go.Proofs.YtgkofpfjbjnhfaaDoor
