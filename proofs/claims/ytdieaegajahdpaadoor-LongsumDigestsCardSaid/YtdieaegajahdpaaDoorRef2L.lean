/- SHA-2 on words of 64 bits: the document's sums of turns; its tables. -/
import Derived.Test.YtdieaegajahdpaaDoorRef1L
namespace Go.Proofs.YtdieaegajahdpaaDoor
open Go.ChangeShapes Go.WideShapes Go.ChangeAt Go.RowKit
namespace Sha64
set_option linter.unusedVariables false
set_option linter.unusedSimpArgs false

theorem xorw (x y : UInt64) : bits .xor .u64 ((x.toNat : Nat) : Int) ((y.toNat : Nat) : Int) = (((x ^^^ y).toNat : Nat) : Int) := by
  have h1 := UInt64.toNat_lt x
  have h2 := UInt64.toNat_lt y
  rw [u64_xor_nat _ _ (by omega) (by omega), UInt64.toNat_xor]

set_option maxRecDepth 100000 in
set_option maxHeartbeats 8000000 in
theorem rbig0_any (x : UInt64) (w : World) : Calls Tryd.prog 42 #[.agg fc, w64 x, .agg (tc 28 34 39)] w fun e w' => e = .returned (w64 (big0 x)) ∧ Below w.heap.size w w' := by
  have hu := Tryd.underlying31
  have hs : (Tryd.prog.info? 31).map (·.size) = some fc.size := by kernel_rfl
  have hw2 := ((on_all w).alloc (.cells fc 31)).alloc (.cells (tc 28 34 39) 29)
  simp only [World.size_alloc] at hw2
  have HB : Hid (∀ X, Stay ((w.alloc (.cells fc 31)).alloc (.cells (tc 28 34 39) 29)) X → X.heap[w.heap.size]? = some (.cells fc 31 (0, 0))) := hide fun X hT => on_blk_mul (hw2.below hT).right
  have CT0 : Hid (∀ X, Stay ((w.alloc (.cells fc 31)).alloc (.cells (tc 28 34 39) 29)) X → X.cell? ⟨w.heap.size + 1, 0, Option.none⟩ = some (.int .i64 28)) := hide fun X hT => cell_of_blk (hw2.below hT) 0 rfl
  have CT1 : Hid (∀ X, Stay ((w.alloc (.cells fc 31)).alloc (.cells (tc 28 34 39) 29)) X → X.cell? ⟨w.heap.size + 1, 1, Option.none⟩ = some (.int .i64 34)) := hide fun X hT => cell_of_blk (hw2.below hT) 1 rfl
  have CT2 : Hid (∀ X, Stay ((w.alloc (.cells fc 31)).alloc (.cells (tc 28 34 39) 29)) X → X.cell? ⟨w.heap.size + 1, 2, Option.none⟩ = some (.int .i64 39)) := hide fun X hT => cell_of_blk (hw2.below hT) 2 rfl
  have hshr := shr_n x 39 (by decide)
  have HSh := hide hshr
  clear hw2 hshr
  go_enter Tryd.func42, Tryd.ntmps42
  go_wp2_with fail
  have hshr := HSh.out
  refine wp_region_vs [isV (.agg fc), isV (w64 x), isV (.pointer (some ⟨w.heap.size + 1, 0, Option.none⟩)), isV (.int .i64 28), isV (w64 (rotr x 28)), isV (.agg fc), isV (w64 x), isV (.pointer (some ⟨w.heap.size + 1, 1, Option.none⟩)), isV (.int .i64 34), isV (w64 (rotr x 34)), isV (w64 ((rotr x 28) ^^^ (rotr x 34))), isV (.agg fc), isV (w64 x), isV (.pointer (some ⟨w.heap.size + 1, 2, Option.none⟩)), isV (.int .i64 39), isV (w64 (rotr x 39)), isV (w64 (((rotr x 28) ^^^ (rotr x 34)) ^^^ (rotr x 39))), isV (w64 (((rotr x 28) ^^^ (rotr x 34)) ^^^ (rotr x 39)))]
    (by kernel_rfl) (by kernel_rfl) rfl ?keep ?todo ?rest
  case keep => exact ⟨Keep.isV _, Keep.isV _, Keep.isV _, Keep.isV _, Keep.isV _, Keep.isV _, Keep.isV _, Keep.isV _, Keep.isV _, Keep.isV _, Keep.isV _, Keep.isV _, Keep.isV _, Keep.isV _, Keep.isV _, Keep.isV _, Keep.isV _, Keep.isV _, trivial⟩
  case todo =>
    refine ⟨?_, ?_, ?_, ?_, ?_, ?_, ?_, ?_, ?_, ?_, ?_, ?_, ?_, ?_, ?_, ?_, ?_, ?_, trivial⟩
    · intro ev X hT hb hk hf
      have e0 : ev (.tmp 3) = .pointer (some ⟨w.heap.size, 0, Option.none⟩) := hk.1
      exact OpOk.load_part _ _ rfl w.heap.size 0 e0 fc _ (part_of (HB.out X hT)) hu rfl hs ⟨rfl, Stay.refl _⟩
    · intro ev X hT hb hk hf
      have e0 : ev (.tmp 1) = w64 x := hk.1
      exact OpOk.move rfl e0 ⟨rfl, Stay.refl _⟩
    · intro ev X hT hb hk hf
      have e0 : ev (.tmp 5) = .pointer (some ⟨w.heap.size + 1, 0, Option.none⟩) := hk.1
      exact OpOk.run (v := .pointer (some ⟨w.heap.size + 1, 0, Option.none⟩)) (W' := X) (by simp [execOp, e0, hb.1, go_sem]) ⟨rfl, Stay.refl _⟩
    · intro ev X hT hb hk hf
      have e0 : ev (.tmp 9) = .pointer (some ⟨w.heap.size + 1, 0, Option.none⟩) := hf.1
      have cW := CT0.out X hT
      exact OpOk.run (v := .int .i64 28) (W' := X) (by simp [execOp, e0, cW, go_sem]) ⟨rfl, Stay.refl _⟩
    · intro ev X hT hb hk hf
      have e0 : ev (.tmp 7) = .agg fc := hf.1
      have e1 : ev (.tmp 8) = w64 x := hf.2.1
      have e2 : ev (.tmp 10) = .int .i64 28 := hf.2.2.1
      refine OpOk.enters (f := 66) (args := #[.agg fc, w64 x, .int .i64 ((28 : Nat) : Int)]) (W' := X) (by simp [execOp, resolve, invoke, e0, e1, e2, hb.1, hb.2.1, go_sem]) ((turn_any x 28 (by decide) X).mono ?_)
      rintro e X2 ⟨rfl, h2⟩
      exact ⟨_, rfl, rfl, h2⟩
    · intro ev X hT hb hk hf
      have e0 : ev (.tmp 3) = .pointer (some ⟨w.heap.size, 0, Option.none⟩) := hk.1
      exact OpOk.load_part _ _ rfl w.heap.size 0 e0 fc _ (part_of (HB.out X hT)) hu rfl hs ⟨rfl, Stay.refl _⟩
    · intro ev X hT hb hk hf
      have e0 : ev (.tmp 1) = w64 x := hk.1
      exact OpOk.move rfl e0 ⟨rfl, Stay.refl _⟩
    · intro ev X hT hb hk hf
      have e0 : ev (.tmp 5) = .pointer (some ⟨w.heap.size + 1, 0, Option.none⟩) := hk.1
      exact OpOk.run (v := .pointer (some ⟨w.heap.size + 1, 1, Option.none⟩)) (W' := X) (by simp [execOp, e0, hb.1, go_sem]) ⟨rfl, Stay.refl _⟩
    · intro ev X hT hb hk hf
      have e0 : ev (.tmp 14) = .pointer (some ⟨w.heap.size + 1, 1, Option.none⟩) := hf.1
      have cW := CT1.out X hT
      exact OpOk.run (v := .int .i64 34) (W' := X) (by simp [execOp, e0, cW, go_sem]) ⟨rfl, Stay.refl _⟩
    · intro ev X hT hb hk hf
      have e0 : ev (.tmp 12) = .agg fc := hf.1
      have e1 : ev (.tmp 13) = w64 x := hf.2.1
      have e2 : ev (.tmp 15) = .int .i64 34 := hf.2.2.1
      refine OpOk.enters (f := 66) (args := #[.agg fc, w64 x, .int .i64 ((34 : Nat) : Int)]) (W' := X) (by simp [execOp, resolve, invoke, e0, e1, e2, hb.1, hb.2.1, go_sem]) ((turn_any x 34 (by decide) X).mono ?_)
      rintro e X2 ⟨rfl, h2⟩
      exact ⟨_, rfl, rfl, h2⟩
    · intro ev X hT hb hk hf
      have e0 : ev (.tmp 11) = w64 (rotr x 28) := hf.1
      have e1 : ev (.tmp 16) = w64 (rotr x 34) := hf.2.1
      exact OpOk.run (v := w64 ((rotr x 28) ^^^ (rotr x 34))) (W' := X) (by simp [execOp, e0, e1, hb.1, xorw, -UInt64.toNat_add, -UInt64.toNat_xor, -UInt64.toNat_and, -UInt64.toNat_or, -UInt64.toNat_not, -UInt64.toNat_shiftRight, -UInt64.toNat_shiftLeft, go_sem]) ⟨rfl, Stay.refl _⟩
    · intro ev X hT hb hk hf
      have e0 : ev (.tmp 3) = .pointer (some ⟨w.heap.size, 0, Option.none⟩) := hk.1
      exact OpOk.load_part _ _ rfl w.heap.size 0 e0 fc _ (part_of (HB.out X hT)) hu rfl hs ⟨rfl, Stay.refl _⟩
    · intro ev X hT hb hk hf
      have e0 : ev (.tmp 1) = w64 x := hk.1
      exact OpOk.move rfl e0 ⟨rfl, Stay.refl _⟩
    · intro ev X hT hb hk hf
      have e0 : ev (.tmp 5) = .pointer (some ⟨w.heap.size + 1, 0, Option.none⟩) := hk.1
      exact OpOk.run (v := .pointer (some ⟨w.heap.size + 1, 2, Option.none⟩)) (W' := X) (by simp [execOp, e0, hb.1, go_sem]) ⟨rfl, Stay.refl _⟩
    · intro ev X hT hb hk hf
      have e0 : ev (.tmp 20) = .pointer (some ⟨w.heap.size + 1, 2, Option.none⟩) := hf.1
      have cW := CT2.out X hT
      exact OpOk.run (v := .int .i64 39) (W' := X) (by simp [execOp, e0, cW, go_sem]) ⟨rfl, Stay.refl _⟩
    · intro ev X hT hb hk hf
      have e0 : ev (.tmp 18) = .agg fc := hf.1
      have e1 : ev (.tmp 19) = w64 x := hf.2.1
      have e2 : ev (.tmp 21) = .int .i64 39 := hf.2.2.1
      refine OpOk.enters (f := 66) (args := #[.agg fc, w64 x, .int .i64 ((39 : Nat) : Int)]) (W' := X) (by simp [execOp, resolve, invoke, e0, e1, e2, hb.1, hb.2.1, go_sem]) ((turn_any x 39 (by decide) X).mono ?_)
      rintro e X2 ⟨rfl, h2⟩
      exact ⟨_, rfl, rfl, h2⟩
    · intro ev X hT hb hk hf
      have e0 : ev (.tmp 17) = w64 ((rotr x 28) ^^^ (rotr x 34)) := hf.1
      have e1 : ev (.tmp 22) = w64 (rotr x 39) := hf.2.1
      exact OpOk.run (v := w64 (((rotr x 28) ^^^ (rotr x 34)) ^^^ (rotr x 39))) (W' := X) (by simp [execOp, e0, e1, hb.1, xorw, -UInt64.toNat_add, -UInt64.toNat_xor, -UInt64.toNat_and, -UInt64.toNat_or, -UInt64.toNat_not, -UInt64.toNat_shiftRight, -UInt64.toNat_shiftLeft, go_sem]) ⟨rfl, Stay.refl _⟩
    · intro ev X hT hb hk hf
      have e0 : ev (.tmp 23) = w64 (((rotr x 28) ^^^ (rotr x 34)) ^^^ (rotr x 39)) := hf.1
      exact OpOk.assign rfl e0 ⟨rfl, Stay.refl _⟩
  case rest =>
    intro X hT
    rintro _ rfl _ rfl _ rfl _ rfl _ rfl _ rfl _ rfl _ rfl _ rfl _ rfl _ rfl _ rfl _ rfl _ rfl _ rfl _ rfl _ rfl _ rfl
    have HBB := hide (Below.trans (((Below.refl w.heap.size w).alloc (Nat.le_refl _) (.cells fc 31)).alloc (by simp) (.cells (tc 28 34 39) 29)) (hT.mono (by simp; omega)))
    clear hT hshr
    go_wp2
    refine Rest.done ?_
    go_wp2_with fail
    go_ret
    exact ⟨rfl, HBB.out⟩

set_option maxRecDepth 100000 in
set_option maxHeartbeats 8000000 in
theorem rbig1_any (x : UInt64) (w : World) : Calls Tryd.prog 42 #[.agg fc, w64 x, .agg (tc 14 18 41)] w fun e w' => e = .returned (w64 (big1 x)) ∧ Below w.heap.size w w' := by
  have hu := Tryd.underlying31
  have hs : (Tryd.prog.info? 31).map (·.size) = some fc.size := by kernel_rfl
  have hw2 := ((on_all w).alloc (.cells fc 31)).alloc (.cells (tc 14 18 41) 29)
  simp only [World.size_alloc] at hw2
  have HB : Hid (∀ X, Stay ((w.alloc (.cells fc 31)).alloc (.cells (tc 14 18 41) 29)) X → X.heap[w.heap.size]? = some (.cells fc 31 (0, 0))) := hide fun X hT => on_blk_mul (hw2.below hT).right
  have CT0 : Hid (∀ X, Stay ((w.alloc (.cells fc 31)).alloc (.cells (tc 14 18 41) 29)) X → X.cell? ⟨w.heap.size + 1, 0, Option.none⟩ = some (.int .i64 14)) := hide fun X hT => cell_of_blk (hw2.below hT) 0 rfl
  have CT1 : Hid (∀ X, Stay ((w.alloc (.cells fc 31)).alloc (.cells (tc 14 18 41) 29)) X → X.cell? ⟨w.heap.size + 1, 1, Option.none⟩ = some (.int .i64 18)) := hide fun X hT => cell_of_blk (hw2.below hT) 1 rfl
  have CT2 : Hid (∀ X, Stay ((w.alloc (.cells fc 31)).alloc (.cells (tc 14 18 41) 29)) X → X.cell? ⟨w.heap.size + 1, 2, Option.none⟩ = some (.int .i64 41)) := hide fun X hT => cell_of_blk (hw2.below hT) 2 rfl
  have hshr := shr_n x 41 (by decide)
  have HSh := hide hshr
  clear hw2 hshr
  go_enter Tryd.func42, Tryd.ntmps42
  go_wp2_with fail
  have hshr := HSh.out
  refine wp_region_vs [isV (.agg fc), isV (w64 x), isV (.pointer (some ⟨w.heap.size + 1, 0, Option.none⟩)), isV (.int .i64 14), isV (w64 (rotr x 14)), isV (.agg fc), isV (w64 x), isV (.pointer (some ⟨w.heap.size + 1, 1, Option.none⟩)), isV (.int .i64 18), isV (w64 (rotr x 18)), isV (w64 ((rotr x 14) ^^^ (rotr x 18))), isV (.agg fc), isV (w64 x), isV (.pointer (some ⟨w.heap.size + 1, 2, Option.none⟩)), isV (.int .i64 41), isV (w64 (rotr x 41)), isV (w64 (((rotr x 14) ^^^ (rotr x 18)) ^^^ (rotr x 41))), isV (w64 (((rotr x 14) ^^^ (rotr x 18)) ^^^ (rotr x 41)))]
    (by kernel_rfl) (by kernel_rfl) rfl ?keep ?todo ?rest
  case keep => exact ⟨Keep.isV _, Keep.isV _, Keep.isV _, Keep.isV _, Keep.isV _, Keep.isV _, Keep.isV _, Keep.isV _, Keep.isV _, Keep.isV _, Keep.isV _, Keep.isV _, Keep.isV _, Keep.isV _, Keep.isV _, Keep.isV _, Keep.isV _, Keep.isV _, trivial⟩
  case todo =>
    refine ⟨?_, ?_, ?_, ?_, ?_, ?_, ?_, ?_, ?_, ?_, ?_, ?_, ?_, ?_, ?_, ?_, ?_, ?_, trivial⟩
    · intro ev X hT hb hk hf
      have e0 : ev (.tmp 3) = .pointer (some ⟨w.heap.size, 0, Option.none⟩) := hk.1
      exact OpOk.load_part _ _ rfl w.heap.size 0 e0 fc _ (part_of (HB.out X hT)) hu rfl hs ⟨rfl, Stay.refl _⟩
    · intro ev X hT hb hk hf
      have e0 : ev (.tmp 1) = w64 x := hk.1
      exact OpOk.move rfl e0 ⟨rfl, Stay.refl _⟩
    · intro ev X hT hb hk hf
      have e0 : ev (.tmp 5) = .pointer (some ⟨w.heap.size + 1, 0, Option.none⟩) := hk.1
      exact OpOk.run (v := .pointer (some ⟨w.heap.size + 1, 0, Option.none⟩)) (W' := X) (by simp [execOp, e0, hb.1, go_sem]) ⟨rfl, Stay.refl _⟩
    · intro ev X hT hb hk hf
      have e0 : ev (.tmp 9) = .pointer (some ⟨w.heap.size + 1, 0, Option.none⟩) := hf.1
      have cW := CT0.out X hT
      exact OpOk.run (v := .int .i64 14) (W' := X) (by simp [execOp, e0, cW, go_sem]) ⟨rfl, Stay.refl _⟩
    · intro ev X hT hb hk hf
      have e0 : ev (.tmp 7) = .agg fc := hf.1
      have e1 : ev (.tmp 8) = w64 x := hf.2.1
      have e2 : ev (.tmp 10) = .int .i64 14 := hf.2.2.1
      refine OpOk.enters (f := 66) (args := #[.agg fc, w64 x, .int .i64 ((14 : Nat) : Int)]) (W' := X) (by simp [execOp, resolve, invoke, e0, e1, e2, hb.1, hb.2.1, go_sem]) ((turn_any x 14 (by decide) X).mono ?_)
      rintro e X2 ⟨rfl, h2⟩
      exact ⟨_, rfl, rfl, h2⟩
    · intro ev X hT hb hk hf
      have e0 : ev (.tmp 3) = .pointer (some ⟨w.heap.size, 0, Option.none⟩) := hk.1
      exact OpOk.load_part _ _ rfl w.heap.size 0 e0 fc _ (part_of (HB.out X hT)) hu rfl hs ⟨rfl, Stay.refl _⟩
    · intro ev X hT hb hk hf
      have e0 : ev (.tmp 1) = w64 x := hk.1
      exact OpOk.move rfl e0 ⟨rfl, Stay.refl _⟩
    · intro ev X hT hb hk hf
      have e0 : ev (.tmp 5) = .pointer (some ⟨w.heap.size + 1, 0, Option.none⟩) := hk.1
      exact OpOk.run (v := .pointer (some ⟨w.heap.size + 1, 1, Option.none⟩)) (W' := X) (by simp [execOp, e0, hb.1, go_sem]) ⟨rfl, Stay.refl _⟩
    · intro ev X hT hb hk hf
      have e0 : ev (.tmp 14) = .pointer (some ⟨w.heap.size + 1, 1, Option.none⟩) := hf.1
      have cW := CT1.out X hT
      exact OpOk.run (v := .int .i64 18) (W' := X) (by simp [execOp, e0, cW, go_sem]) ⟨rfl, Stay.refl _⟩
    · intro ev X hT hb hk hf
      have e0 : ev (.tmp 12) = .agg fc := hf.1
      have e1 : ev (.tmp 13) = w64 x := hf.2.1
      have e2 : ev (.tmp 15) = .int .i64 18 := hf.2.2.1
      refine OpOk.enters (f := 66) (args := #[.agg fc, w64 x, .int .i64 ((18 : Nat) : Int)]) (W' := X) (by simp [execOp, resolve, invoke, e0, e1, e2, hb.1, hb.2.1, go_sem]) ((turn_any x 18 (by decide) X).mono ?_)
      rintro e X2 ⟨rfl, h2⟩
      exact ⟨_, rfl, rfl, h2⟩
    · intro ev X hT hb hk hf
      have e0 : ev (.tmp 11) = w64 (rotr x 14) := hf.1
      have e1 : ev (.tmp 16) = w64 (rotr x 18) := hf.2.1
      exact OpOk.run (v := w64 ((rotr x 14) ^^^ (rotr x 18))) (W' := X) (by simp [execOp, e0, e1, hb.1, xorw, -UInt64.toNat_add, -UInt64.toNat_xor, -UInt64.toNat_and, -UInt64.toNat_or, -UInt64.toNat_not, -UInt64.toNat_shiftRight, -UInt64.toNat_shiftLeft, go_sem]) ⟨rfl, Stay.refl _⟩
    · intro ev X hT hb hk hf
      have e0 : ev (.tmp 3) = .pointer (some ⟨w.heap.size, 0, Option.none⟩) := hk.1
      exact OpOk.load_part _ _ rfl w.heap.size 0 e0 fc _ (part_of (HB.out X hT)) hu rfl hs ⟨rfl, Stay.refl _⟩
    · intro ev X hT hb hk hf
      have e0 : ev (.tmp 1) = w64 x := hk.1
      exact OpOk.move rfl e0 ⟨rfl, Stay.refl _⟩
    · intro ev X hT hb hk hf
      have e0 : ev (.tmp 5) = .pointer (some ⟨w.heap.size + 1, 0, Option.none⟩) := hk.1
      exact OpOk.run (v := .pointer (some ⟨w.heap.size + 1, 2, Option.none⟩)) (W' := X) (by simp [execOp, e0, hb.1, go_sem]) ⟨rfl, Stay.refl _⟩
    · intro ev X hT hb hk hf
      have e0 : ev (.tmp 20) = .pointer (some ⟨w.heap.size + 1, 2, Option.none⟩) := hf.1
      have cW := CT2.out X hT
      exact OpOk.run (v := .int .i64 41) (W' := X) (by simp [execOp, e0, cW, go_sem]) ⟨rfl, Stay.refl _⟩
    · intro ev X hT hb hk hf
      have e0 : ev (.tmp 18) = .agg fc := hf.1
      have e1 : ev (.tmp 19) = w64 x := hf.2.1
      have e2 : ev (.tmp 21) = .int .i64 41 := hf.2.2.1
      refine OpOk.enters (f := 66) (args := #[.agg fc, w64 x, .int .i64 ((41 : Nat) : Int)]) (W' := X) (by simp [execOp, resolve, invoke, e0, e1, e2, hb.1, hb.2.1, go_sem]) ((turn_any x 41 (by decide) X).mono ?_)
      rintro e X2 ⟨rfl, h2⟩
      exact ⟨_, rfl, rfl, h2⟩
    · intro ev X hT hb hk hf
      have e0 : ev (.tmp 17) = w64 ((rotr x 14) ^^^ (rotr x 18)) := hf.1
      have e1 : ev (.tmp 22) = w64 (rotr x 41) := hf.2.1
      exact OpOk.run (v := w64 (((rotr x 14) ^^^ (rotr x 18)) ^^^ (rotr x 41))) (W' := X) (by simp [execOp, e0, e1, hb.1, xorw, -UInt64.toNat_add, -UInt64.toNat_xor, -UInt64.toNat_and, -UInt64.toNat_or, -UInt64.toNat_not, -UInt64.toNat_shiftRight, -UInt64.toNat_shiftLeft, go_sem]) ⟨rfl, Stay.refl _⟩
    · intro ev X hT hb hk hf
      have e0 : ev (.tmp 23) = w64 (((rotr x 14) ^^^ (rotr x 18)) ^^^ (rotr x 41)) := hf.1
      exact OpOk.assign rfl e0 ⟨rfl, Stay.refl _⟩
  case rest =>
    intro X hT
    rintro _ rfl _ rfl _ rfl _ rfl _ rfl _ rfl _ rfl _ rfl _ rfl _ rfl _ rfl _ rfl _ rfl _ rfl _ rfl _ rfl _ rfl _ rfl
    have HBB := hide (Below.trans (((Below.refl w.heap.size w).alloc (Nat.le_refl _) (.cells fc 31)).alloc (by simp) (.cells (tc 14 18 41) 29)) (hT.mono (by simp; omega)))
    clear hT hshr
    go_wp2
    refine Rest.done ?_
    go_wp2_with fail
    go_ret
    exact ⟨rfl, HBB.out⟩

set_option maxRecDepth 100000 in
set_option maxHeartbeats 8000000 in
theorem rsmall0_any (x : UInt64) (w : World) : Calls Tryd.prog 40 #[.agg fc, w64 x, .agg (tc 1 8 7)] w fun e w' => e = .returned (w64 (small0 x)) ∧ Below w.heap.size w w' := by
  have hu := Tryd.underlying31
  have hs : (Tryd.prog.info? 31).map (·.size) = some fc.size := by kernel_rfl
  have hw2 := ((on_all w).alloc (.cells fc 31)).alloc (.cells (tc 1 8 7) 29)
  simp only [World.size_alloc] at hw2
  have HB : Hid (∀ X, Stay ((w.alloc (.cells fc 31)).alloc (.cells (tc 1 8 7) 29)) X → X.heap[w.heap.size]? = some (.cells fc 31 (0, 0))) := hide fun X hT => on_blk_mul (hw2.below hT).right
  have CT0 : Hid (∀ X, Stay ((w.alloc (.cells fc 31)).alloc (.cells (tc 1 8 7) 29)) X → X.cell? ⟨w.heap.size + 1, 0, Option.none⟩ = some (.int .i64 1)) := hide fun X hT => cell_of_blk (hw2.below hT) 0 rfl
  have CT1 : Hid (∀ X, Stay ((w.alloc (.cells fc 31)).alloc (.cells (tc 1 8 7) 29)) X → X.cell? ⟨w.heap.size + 1, 1, Option.none⟩ = some (.int .i64 8)) := hide fun X hT => cell_of_blk (hw2.below hT) 1 rfl
  have CT2 : Hid (∀ X, Stay ((w.alloc (.cells fc 31)).alloc (.cells (tc 1 8 7) 29)) X → X.cell? ⟨w.heap.size + 1, 2, Option.none⟩ = some (.int .i64 7)) := hide fun X hT => cell_of_blk (hw2.below hT) 2 rfl
  have hshr : ((x.toNat : Nat) : Int) / (128 : Int) = (((x >>> 7).toNat : Nat) : Int) := shr_n x 7 (by decide)
  have HSh := hide hshr
  clear hw2 hshr
  go_enter Tryd.func40, Tryd.ntmps40
  go_wp2_with fail
  have hshr := HSh.out
  refine wp_region_vs [isV (.agg fc), isV (w64 x), isV (.pointer (some ⟨w.heap.size + 1, 0, Option.none⟩)), isV (.int .i64 1), isV (w64 (rotr x 1)), isV (.agg fc), isV (w64 x), isV (.pointer (some ⟨w.heap.size + 1, 1, Option.none⟩)), isV (.int .i64 8), isV (w64 (rotr x 8)), isV (w64 ((rotr x 1) ^^^ (rotr x 8))), isV (w64 x), isV (.pointer (some ⟨w.heap.size + 1, 2, Option.none⟩)), isV (.int .i64 7), isV (w64 (x >>> 7)), isV (w64 (((rotr x 1) ^^^ (rotr x 8)) ^^^ (x >>> 7))), isV (w64 (((rotr x 1) ^^^ (rotr x 8)) ^^^ (x >>> 7)))]
    (by kernel_rfl) (by kernel_rfl) rfl ?keep ?todo ?rest
  case keep => exact ⟨Keep.isV _, Keep.isV _, Keep.isV _, Keep.isV _, Keep.isV _, Keep.isV _, Keep.isV _, Keep.isV _, Keep.isV _, Keep.isV _, Keep.isV _, Keep.isV _, Keep.isV _, Keep.isV _, Keep.isV _, Keep.isV _, Keep.isV _, trivial⟩
  case todo =>
    refine ⟨?_, ?_, ?_, ?_, ?_, ?_, ?_, ?_, ?_, ?_, ?_, ?_, ?_, ?_, ?_, ?_, ?_, trivial⟩
    · intro ev X hT hb hk hf
      have e0 : ev (.tmp 3) = .pointer (some ⟨w.heap.size, 0, Option.none⟩) := hk.1
      exact OpOk.load_part _ _ rfl w.heap.size 0 e0 fc _ (part_of (HB.out X hT)) hu rfl hs ⟨rfl, Stay.refl _⟩
    · intro ev X hT hb hk hf
      have e0 : ev (.tmp 1) = w64 x := hk.1
      exact OpOk.move rfl e0 ⟨rfl, Stay.refl _⟩
    · intro ev X hT hb hk hf
      have e0 : ev (.tmp 5) = .pointer (some ⟨w.heap.size + 1, 0, Option.none⟩) := hk.1
      exact OpOk.run (v := .pointer (some ⟨w.heap.size + 1, 0, Option.none⟩)) (W' := X) (by simp [execOp, e0, hb.1, go_sem]) ⟨rfl, Stay.refl _⟩
    · intro ev X hT hb hk hf
      have e0 : ev (.tmp 9) = .pointer (some ⟨w.heap.size + 1, 0, Option.none⟩) := hf.1
      have cW := CT0.out X hT
      exact OpOk.run (v := .int .i64 1) (W' := X) (by simp [execOp, e0, cW, go_sem]) ⟨rfl, Stay.refl _⟩
    · intro ev X hT hb hk hf
      have e0 : ev (.tmp 7) = .agg fc := hf.1
      have e1 : ev (.tmp 8) = w64 x := hf.2.1
      have e2 : ev (.tmp 10) = .int .i64 1 := hf.2.2.1
      refine OpOk.enters (f := 66) (args := #[.agg fc, w64 x, .int .i64 ((1 : Nat) : Int)]) (W' := X) (by simp [execOp, resolve, invoke, e0, e1, e2, hb.1, hb.2.1, go_sem]) ((turn_any x 1 (by decide) X).mono ?_)
      rintro e X2 ⟨rfl, h2⟩
      exact ⟨_, rfl, rfl, h2⟩
    · intro ev X hT hb hk hf
      have e0 : ev (.tmp 3) = .pointer (some ⟨w.heap.size, 0, Option.none⟩) := hk.1
      exact OpOk.load_part _ _ rfl w.heap.size 0 e0 fc _ (part_of (HB.out X hT)) hu rfl hs ⟨rfl, Stay.refl _⟩
    · intro ev X hT hb hk hf
      have e0 : ev (.tmp 1) = w64 x := hk.1
      exact OpOk.move rfl e0 ⟨rfl, Stay.refl _⟩
    · intro ev X hT hb hk hf
      have e0 : ev (.tmp 5) = .pointer (some ⟨w.heap.size + 1, 0, Option.none⟩) := hk.1
      exact OpOk.run (v := .pointer (some ⟨w.heap.size + 1, 1, Option.none⟩)) (W' := X) (by simp [execOp, e0, hb.1, go_sem]) ⟨rfl, Stay.refl _⟩
    · intro ev X hT hb hk hf
      have e0 : ev (.tmp 14) = .pointer (some ⟨w.heap.size + 1, 1, Option.none⟩) := hf.1
      have cW := CT1.out X hT
      exact OpOk.run (v := .int .i64 8) (W' := X) (by simp [execOp, e0, cW, go_sem]) ⟨rfl, Stay.refl _⟩
    · intro ev X hT hb hk hf
      have e0 : ev (.tmp 12) = .agg fc := hf.1
      have e1 : ev (.tmp 13) = w64 x := hf.2.1
      have e2 : ev (.tmp 15) = .int .i64 8 := hf.2.2.1
      refine OpOk.enters (f := 66) (args := #[.agg fc, w64 x, .int .i64 ((8 : Nat) : Int)]) (W' := X) (by simp [execOp, resolve, invoke, e0, e1, e2, hb.1, hb.2.1, go_sem]) ((turn_any x 8 (by decide) X).mono ?_)
      rintro e X2 ⟨rfl, h2⟩
      exact ⟨_, rfl, rfl, h2⟩
    · intro ev X hT hb hk hf
      have e0 : ev (.tmp 11) = w64 (rotr x 1) := hf.1
      have e1 : ev (.tmp 16) = w64 (rotr x 8) := hf.2.1
      exact OpOk.run (v := w64 ((rotr x 1) ^^^ (rotr x 8))) (W' := X) (by simp [execOp, e0, e1, hb.1, xorw, -UInt64.toNat_add, -UInt64.toNat_xor, -UInt64.toNat_and, -UInt64.toNat_or, -UInt64.toNat_not, -UInt64.toNat_shiftRight, -UInt64.toNat_shiftLeft, go_sem]) ⟨rfl, Stay.refl _⟩
    · intro ev X hT hb hk hf
      have e0 : ev (.tmp 1) = w64 x := hk.1
      exact OpOk.move rfl e0 ⟨rfl, Stay.refl _⟩
    · intro ev X hT hb hk hf
      have e0 : ev (.tmp 5) = .pointer (some ⟨w.heap.size + 1, 0, Option.none⟩) := hk.1
      exact OpOk.run (v := .pointer (some ⟨w.heap.size + 1, 2, Option.none⟩)) (W' := X) (by simp [execOp, e0, hb.1, go_sem]) ⟨rfl, Stay.refl _⟩
    · intro ev X hT hb hk hf
      have e0 : ev (.tmp 19) = .pointer (some ⟨w.heap.size + 1, 2, Option.none⟩) := hf.1
      have cW := CT2.out X hT
      exact OpOk.run (v := .int .i64 7) (W' := X) (by simp [execOp, e0, cW, go_sem]) ⟨rfl, Stay.refl _⟩
    · intro ev X hT hb hk hf
      have e0 : ev (.tmp 18) = w64 x := hf.1
      have e1 : ev (.tmp 20) = .int .i64 7 := hf.2.1
      exact OpOk.run (v := w64 (x >>> 7)) (W' := X) (by simp [execOp, e0, e1, hb.1, hshr, -UInt64.toNat_add, -UInt64.toNat_xor, -UInt64.toNat_and, -UInt64.toNat_or, -UInt64.toNat_not, -UInt64.toNat_shiftRight, -UInt64.toNat_shiftLeft, go_sem]) ⟨rfl, Stay.refl _⟩
    · intro ev X hT hb hk hf
      have e0 : ev (.tmp 17) = w64 ((rotr x 1) ^^^ (rotr x 8)) := hf.1
      have e1 : ev (.tmp 21) = w64 (x >>> 7) := hf.2.1
      exact OpOk.run (v := w64 (((rotr x 1) ^^^ (rotr x 8)) ^^^ (x >>> 7))) (W' := X) (by simp [execOp, e0, e1, hb.1, xorw, -UInt64.toNat_add, -UInt64.toNat_xor, -UInt64.toNat_and, -UInt64.toNat_or, -UInt64.toNat_not, -UInt64.toNat_shiftRight, -UInt64.toNat_shiftLeft, go_sem]) ⟨rfl, Stay.refl _⟩
    · intro ev X hT hb hk hf
      have e0 : ev (.tmp 22) = w64 (((rotr x 1) ^^^ (rotr x 8)) ^^^ (x >>> 7)) := hf.1
      exact OpOk.assign rfl e0 ⟨rfl, Stay.refl _⟩
  case rest =>
    intro X hT
    rintro _ rfl _ rfl _ rfl _ rfl _ rfl _ rfl _ rfl _ rfl _ rfl _ rfl _ rfl _ rfl _ rfl _ rfl _ rfl _ rfl _ rfl
    have HBB := hide (Below.trans (((Below.refl w.heap.size w).alloc (Nat.le_refl _) (.cells fc 31)).alloc (by simp) (.cells (tc 1 8 7) 29)) (hT.mono (by simp; omega)))
    clear hT hshr
    go_wp2
    refine Rest.done ?_
    go_wp2_with fail
    go_ret
    exact ⟨rfl, HBB.out⟩

set_option maxRecDepth 100000 in
set_option maxHeartbeats 8000000 in
theorem rsmall1_any (x : UInt64) (w : World) : Calls Tryd.prog 40 #[.agg fc, w64 x, .agg (tc 19 61 6)] w fun e w' => e = .returned (w64 (small1 x)) ∧ Below w.heap.size w w' := by
  have hu := Tryd.underlying31
  have hs : (Tryd.prog.info? 31).map (·.size) = some fc.size := by kernel_rfl
  have hw2 := ((on_all w).alloc (.cells fc 31)).alloc (.cells (tc 19 61 6) 29)
  simp only [World.size_alloc] at hw2
  have HB : Hid (∀ X, Stay ((w.alloc (.cells fc 31)).alloc (.cells (tc 19 61 6) 29)) X → X.heap[w.heap.size]? = some (.cells fc 31 (0, 0))) := hide fun X hT => on_blk_mul (hw2.below hT).right
  have CT0 : Hid (∀ X, Stay ((w.alloc (.cells fc 31)).alloc (.cells (tc 19 61 6) 29)) X → X.cell? ⟨w.heap.size + 1, 0, Option.none⟩ = some (.int .i64 19)) := hide fun X hT => cell_of_blk (hw2.below hT) 0 rfl
  have CT1 : Hid (∀ X, Stay ((w.alloc (.cells fc 31)).alloc (.cells (tc 19 61 6) 29)) X → X.cell? ⟨w.heap.size + 1, 1, Option.none⟩ = some (.int .i64 61)) := hide fun X hT => cell_of_blk (hw2.below hT) 1 rfl
  have CT2 : Hid (∀ X, Stay ((w.alloc (.cells fc 31)).alloc (.cells (tc 19 61 6) 29)) X → X.cell? ⟨w.heap.size + 1, 2, Option.none⟩ = some (.int .i64 6)) := hide fun X hT => cell_of_blk (hw2.below hT) 2 rfl
  have hshr : ((x.toNat : Nat) : Int) / (64 : Int) = (((x >>> 6).toNat : Nat) : Int) := shr_n x 6 (by decide)
  have HSh := hide hshr
  clear hw2 hshr
  go_enter Tryd.func40, Tryd.ntmps40
  go_wp2_with fail
  have hshr := HSh.out
  refine wp_region_vs [isV (.agg fc), isV (w64 x), isV (.pointer (some ⟨w.heap.size + 1, 0, Option.none⟩)), isV (.int .i64 19), isV (w64 (rotr x 19)), isV (.agg fc), isV (w64 x), isV (.pointer (some ⟨w.heap.size + 1, 1, Option.none⟩)), isV (.int .i64 61), isV (w64 (rotr x 61)), isV (w64 ((rotr x 19) ^^^ (rotr x 61))), isV (w64 x), isV (.pointer (some ⟨w.heap.size + 1, 2, Option.none⟩)), isV (.int .i64 6), isV (w64 (x >>> 6)), isV (w64 (((rotr x 19) ^^^ (rotr x 61)) ^^^ (x >>> 6))), isV (w64 (((rotr x 19) ^^^ (rotr x 61)) ^^^ (x >>> 6)))]
    (by kernel_rfl) (by kernel_rfl) rfl ?keep ?todo ?rest
  case keep => exact ⟨Keep.isV _, Keep.isV _, Keep.isV _, Keep.isV _, Keep.isV _, Keep.isV _, Keep.isV _, Keep.isV _, Keep.isV _, Keep.isV _, Keep.isV _, Keep.isV _, Keep.isV _, Keep.isV _, Keep.isV _, Keep.isV _, Keep.isV _, trivial⟩
  case todo =>
    refine ⟨?_, ?_, ?_, ?_, ?_, ?_, ?_, ?_, ?_, ?_, ?_, ?_, ?_, ?_, ?_, ?_, ?_, trivial⟩
    · intro ev X hT hb hk hf
      have e0 : ev (.tmp 3) = .pointer (some ⟨w.heap.size, 0, Option.none⟩) := hk.1
      exact OpOk.load_part _ _ rfl w.heap.size 0 e0 fc _ (part_of (HB.out X hT)) hu rfl hs ⟨rfl, Stay.refl _⟩
    · intro ev X hT hb hk hf
      have e0 : ev (.tmp 1) = w64 x := hk.1
      exact OpOk.move rfl e0 ⟨rfl, Stay.refl _⟩
    · intro ev X hT hb hk hf
      have e0 : ev (.tmp 5) = .pointer (some ⟨w.heap.size + 1, 0, Option.none⟩) := hk.1
      exact OpOk.run (v := .pointer (some ⟨w.heap.size + 1, 0, Option.none⟩)) (W' := X) (by simp [execOp, e0, hb.1, go_sem]) ⟨rfl, Stay.refl _⟩
    · intro ev X hT hb hk hf
      have e0 : ev (.tmp 9) = .pointer (some ⟨w.heap.size + 1, 0, Option.none⟩) := hf.1
      have cW := CT0.out X hT
      exact OpOk.run (v := .int .i64 19) (W' := X) (by simp [execOp, e0, cW, go_sem]) ⟨rfl, Stay.refl _⟩
    · intro ev X hT hb hk hf
      have e0 : ev (.tmp 7) = .agg fc := hf.1
      have e1 : ev (.tmp 8) = w64 x := hf.2.1
      have e2 : ev (.tmp 10) = .int .i64 19 := hf.2.2.1
      refine OpOk.enters (f := 66) (args := #[.agg fc, w64 x, .int .i64 ((19 : Nat) : Int)]) (W' := X) (by simp [execOp, resolve, invoke, e0, e1, e2, hb.1, hb.2.1, go_sem]) ((turn_any x 19 (by decide) X).mono ?_)
      rintro e X2 ⟨rfl, h2⟩
      exact ⟨_, rfl, rfl, h2⟩
    · intro ev X hT hb hk hf
      have e0 : ev (.tmp 3) = .pointer (some ⟨w.heap.size, 0, Option.none⟩) := hk.1
      exact OpOk.load_part _ _ rfl w.heap.size 0 e0 fc _ (part_of (HB.out X hT)) hu rfl hs ⟨rfl, Stay.refl _⟩
    · intro ev X hT hb hk hf
      have e0 : ev (.tmp 1) = w64 x := hk.1
      exact OpOk.move rfl e0 ⟨rfl, Stay.refl _⟩
    · intro ev X hT hb hk hf
      have e0 : ev (.tmp 5) = .pointer (some ⟨w.heap.size + 1, 0, Option.none⟩) := hk.1
      exact OpOk.run (v := .pointer (some ⟨w.heap.size + 1, 1, Option.none⟩)) (W' := X) (by simp [execOp, e0, hb.1, go_sem]) ⟨rfl, Stay.refl _⟩
    · intro ev X hT hb hk hf
      have e0 : ev (.tmp 14) = .pointer (some ⟨w.heap.size + 1, 1, Option.none⟩) := hf.1
      have cW := CT1.out X hT
      exact OpOk.run (v := .int .i64 61) (W' := X) (by simp [execOp, e0, cW, go_sem]) ⟨rfl, Stay.refl _⟩
    · intro ev X hT hb hk hf
      have e0 : ev (.tmp 12) = .agg fc := hf.1
      have e1 : ev (.tmp 13) = w64 x := hf.2.1
      have e2 : ev (.tmp 15) = .int .i64 61 := hf.2.2.1
      refine OpOk.enters (f := 66) (args := #[.agg fc, w64 x, .int .i64 ((61 : Nat) : Int)]) (W' := X) (by simp [execOp, resolve, invoke, e0, e1, e2, hb.1, hb.2.1, go_sem]) ((turn_any x 61 (by decide) X).mono ?_)
      rintro e X2 ⟨rfl, h2⟩
      exact ⟨_, rfl, rfl, h2⟩
    · intro ev X hT hb hk hf
      have e0 : ev (.tmp 11) = w64 (rotr x 19) := hf.1
      have e1 : ev (.tmp 16) = w64 (rotr x 61) := hf.2.1
      exact OpOk.run (v := w64 ((rotr x 19) ^^^ (rotr x 61))) (W' := X) (by simp [execOp, e0, e1, hb.1, xorw, -UInt64.toNat_add, -UInt64.toNat_xor, -UInt64.toNat_and, -UInt64.toNat_or, -UInt64.toNat_not, -UInt64.toNat_shiftRight, -UInt64.toNat_shiftLeft, go_sem]) ⟨rfl, Stay.refl _⟩
    · intro ev X hT hb hk hf
      have e0 : ev (.tmp 1) = w64 x := hk.1
      exact OpOk.move rfl e0 ⟨rfl, Stay.refl _⟩
    · intro ev X hT hb hk hf
      have e0 : ev (.tmp 5) = .pointer (some ⟨w.heap.size + 1, 0, Option.none⟩) := hk.1
      exact OpOk.run (v := .pointer (some ⟨w.heap.size + 1, 2, Option.none⟩)) (W' := X) (by simp [execOp, e0, hb.1, go_sem]) ⟨rfl, Stay.refl _⟩
    · intro ev X hT hb hk hf
      have e0 : ev (.tmp 19) = .pointer (some ⟨w.heap.size + 1, 2, Option.none⟩) := hf.1
      have cW := CT2.out X hT
      exact OpOk.run (v := .int .i64 6) (W' := X) (by simp [execOp, e0, cW, go_sem]) ⟨rfl, Stay.refl _⟩
    · intro ev X hT hb hk hf
      have e0 : ev (.tmp 18) = w64 x := hf.1
      have e1 : ev (.tmp 20) = .int .i64 6 := hf.2.1
      exact OpOk.run (v := w64 (x >>> 6)) (W' := X) (by simp [execOp, e0, e1, hb.1, hshr, -UInt64.toNat_add, -UInt64.toNat_xor, -UInt64.toNat_and, -UInt64.toNat_or, -UInt64.toNat_not, -UInt64.toNat_shiftRight, -UInt64.toNat_shiftLeft, go_sem]) ⟨rfl, Stay.refl _⟩
    · intro ev X hT hb hk hf
      have e0 : ev (.tmp 17) = w64 ((rotr x 19) ^^^ (rotr x 61)) := hf.1
      have e1 : ev (.tmp 21) = w64 (x >>> 6) := hf.2.1
      exact OpOk.run (v := w64 (((rotr x 19) ^^^ (rotr x 61)) ^^^ (x >>> 6))) (W' := X) (by simp [execOp, e0, e1, hb.1, xorw, -UInt64.toNat_add, -UInt64.toNat_xor, -UInt64.toNat_and, -UInt64.toNat_or, -UInt64.toNat_not, -UInt64.toNat_shiftRight, -UInt64.toNat_shiftLeft, go_sem]) ⟨rfl, Stay.refl _⟩
    · intro ev X hT hb hk hf
      have e0 : ev (.tmp 22) = w64 (((rotr x 19) ^^^ (rotr x 61)) ^^^ (x >>> 6)) := hf.1
      exact OpOk.assign rfl e0 ⟨rfl, Stay.refl _⟩
  case rest =>
    intro X hT
    rintro _ rfl _ rfl _ rfl _ rfl _ rfl _ rfl _ rfl _ rfl _ rfl _ rfl _ rfl _ rfl _ rfl _ rfl _ rfl _ rfl _ rfl
    have HBB := hide (Below.trans (((Below.refl w.heap.size w).alloc (Nat.le_refl _) (.cells fc 31)).alloc (by simp) (.cells (tc 19 61 6) 29)) (hT.mono (by simp; omega)))
    clear hT hshr
    go_wp2
    refine Rest.done ?_
    go_wp2_with fail
    go_ret
    exact ⟨rfl, HBB.out⟩
end Sha64
end Go.Proofs.YtdieaegajahdpaaDoor
