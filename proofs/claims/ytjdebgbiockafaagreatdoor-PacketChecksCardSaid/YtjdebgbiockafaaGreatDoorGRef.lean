/- A part. -/
import Derived.Test.YtjdebgbiockafaaGreatDoorGSha
import Derived.IntWalk
set_option linter.unusedVariables false
set_option linter.unusedSimpArgs false
set_option maxRecDepth 100000
set_option maxHeartbeats 8000000
namespace Go.Proofs.YtjdebgbiockafaaGreatDoor
open Go.ChangeShapes Go.WideShapes Go.ChangeAt Go.RowKit
namespace Sha64
abbrev fc : Array Value := #[.int .i64 64, .int .i64 80, .int .i64 28, .int .i64 34, .int .i64 39, .int .i64 14, .int .i64 18, .int .i64 41, .int .i64 1, .int .i64 8, .int .i64 7, .int .i64 19, .int .i64 61, .int .i64 6]
abbrev tc (a b c : Int) : Array Value := #[.int .i64 a, .int .i64 b, .int .i64 c]
abbrev w64 (x : UInt64) : Value := .int .u64 ((x.toNat : Nat) : Int)
abbrev zf14 : Array Value := #[.int .i64 0, .int .i64 0, .int .i64 0, .int .i64 0, .int .i64 0, .int .i64 0, .int .i64 0, .int .i64 0, .int .i64 0, .int .i64 0, .int .i64 0, .int .i64 0, .int .i64 0, .int .i64 0]
theorem short_any (w : World) : Calls Tryz.prog 36 #[] w fun e w' => e = .returned (.agg fc) ∧ Below w.heap.size w w' := by
 have hu := Tryz.underlying85
 have hz : ∀ w, (zeroValue 85).run Tryz.prog w = .ok (.agg zf14) w := fun w => by kernel_rfl
 have hs : (Tryz.prog.info? 85).map (·.size) = some fc.size := by kernel_rfl
 have hr := heap_alloc_new w (.cells zf14 85)
 go_enter Tryz.func36, Tryz.ntmps36
 go_wp2
 refine bodyPost_ret (v := .agg fc) (results_cell_row Tryz.results36 _ _ w.heap.size _ fc (0, 0) _ rfl (heap_alloc_new w _) hu rfl hs) rfl ?_
 exact ⟨rfl, (Below.refl _ _).alloc (Nat.le_refl _) _⟩
theorem cut_any (y : Nat) (hy : y < 18446744073709551616) (w : World) : Calls Tryz.prog 66 #[.agg fc, .int .u64 (y : Int)] w fun e w' => e = .returned (.int .u64 ((y % 18446744073709551616 : Nat) : Int)) ∧ Below w.heap.size w w' := by
 go_enter Tryz.func66, Tryz.ntmps66
 go_wp2
 go_ret
 exact ⟨congrArg (fun v => Ending.returned (Value.int .u64 v)) (by omega), (Below.refl _ _).alloc (Nat.le_refl _) _⟩
theorem fc_part (w : World) (X : World) (g : Nat) (h : X.heap[g]? = some (.cells fc 85 (0, 0))) :
  X.cell? ⟨g, 0, .none⟩ = some (.int .i64 64) ∧ X.cell? ⟨g, 1, .none⟩ = some (.int .i64 80) := by
 refine ⟨?_, ?_⟩ <;> (rw [cell_of_row _ _ _ _ _ _ h]; rfl)
theorem part_of {X : World} {g : Nat} {cs : Array Value} {t : TypeId} {fr : Nat × Nat} (h : X.heap[g]? = some (.cells cs t fr)) : ∀ j v, cs[j]? = some v → X.cell? ⟨g, 0 + j, .none⟩ = some v := fun j v hj => by
 rw [Nat.zero_add, cell_of_row _ _ _ _ _ _ h]
 exact hj
theorem turn_nat (x : UInt64) (n : Nat) (h0 : 0 < n) (hn : n < 64) : (x.toNat / 2 ^ n ||| x.toNat * 2 ^ (64 - n) % 18446744073709551616) % 18446744073709551616 = (rotr x n).toNat := by
 unfold rotr
 have h1 : (UInt64.ofNat (64 - n)).toNat % 64 = 64 - n := by simp; omega
 have h2 : (UInt64.ofNat n).toNat % 64 = n := by simp; omega
 rw [UInt64.toNat_or, UInt64.toNat_shiftLeft, UInt64.toNat_shiftRight, h1, h2, Nat.shiftRight_eq_div_pow, Nat.shiftLeft_eq, Nat.or_comm]
 rw [show (18446744073709551616 : Nat) = 2 ^ 64 from rfl, Nat.or_mod_two_pow]
 congr 1
 ·first
  | (rw [show (18446744073709551616 : Nat) = 2 ^ 64 * 2 ^ (64 - 64) from rfl, Nat.mod_mul_right_mod])
  | simp
 exact Nat.mod_eq_of_lt (Nat.lt_of_le_of_lt (Nat.div_le_self _ _) (UInt64.toNat_lt x))
theorem turn_any (x : UInt64) (n : Nat) (hn : n ∈ [1, 8, 14, 18, 19, 28, 34, 39, 41, 61]) (w : World) : Calls Tryz.prog 84 #[.agg fc, w64 x, .int .i64 (n : Int)] w fun e w' => e = .returned (w64 (rotr x n)) ∧ Below w.heap.size w w' := by
 have hu := Tryz.underlying85
 have hs : (Tryz.prog.info? 85).map (·.size) = some fc.size := by kernel_rfl
 have hr := heap_alloc_new w (.cells fc 85)
 have hx := UInt64.toNat_lt x
 have Hr := hide hr
 have hb : 0 < n ∧ n < 64 := by
  simp only [List.mem_cons, List.not_mem_nil, or_false] at hn
  omega
 obtain ⟨h0, hn2⟩ := hb
 have HT := hide (turn_nat x n h0 hn2)
 have HB : Hid (∀ X, Stay (w.alloc (.cells fc 85)) X → X.heap[w.heap.size]? = some (.cells fc 85 (0, 0))) := hide fun X hT => (hT.block _ (by simp)).trans hr
 have hsub : IntKind.i64.wrap ((64 : Int) - (n : Int)) = ((64 - n : Nat) : Int) := by rw [IntWalk.i64_in _ (by omega)]; omega
 obtain ⟨A, hAe⟩ : ∃ A, A = x.toNat / 2 ^ n := ⟨_, rfl⟩
 obtain ⟨B, hBe⟩ : ∃ B, B = x.toNat * 2 ^ (64 - n) % 18446744073709551616 := ⟨_, rfl⟩
 rw [← hAe, ← hBe] at HT
 have hA : (x.toNat : Int) / 2 ^ n = (A : Int) := by rw [hAe]; simp
 have hB : IntKind.u64.wrap ((x.toNat : Int) * 2 ^ (64 - n)) = (B : Int) := by rw [hBe, IntKind.wrap_u64]; simp
 have hA1 : A < 18446744073709551616 := by
  have : A ≤ x.toNat := by rw [hAe]; exact Nat.div_le_self _ _
  omega
 have hB1 : B < 18446744073709551616 := by rw [hBe]; exact Nat.mod_lt _ (by decide)
 have hAB := u64_or_nat A B hA1 hB1
 have hlt : A ||| B < 18446744073709551616 := Nat.or_lt_two_pow (n := 64) hA1 hB1
 have hn64 : (n : Int) ≤ 64 := by omega
 have hsh : ((64 - n : Nat) : Int) ≤ 64 := by omega
 have HFacts := hide (⟨hsub, hA, hB, hAB⟩ : IntKind.i64.wrap ((64 : Int) - (n : Int)) = ((64 - n : Nat) : Int) ∧ (x.toNat : Int) / 2 ^ n = (A : Int) ∧ IntKind.u64.wrap ((x.toNat : Int) * 2 ^ (64 - n)) = (B : Int) ∧ bits .or .u64 (A : Int) (B : Int) = ((A ||| B : Nat) : Int))
 clear hr hn hAe hBe hsub hA hB hAB
 go_enter Tryz.func84, Tryz.ntmps84
 go_wp2_with fail
 obtain ⟨hsub, hA, hB, hAB⟩ := HFacts.out
 refine rV (iv [.agg fc, w64 x, .int .i64 (n : Int), .int .u64 (A : Int), w64 x, .pointer (some ⟨w.heap.size, 0, .none⟩), .int .i64 64, .int .i64 (n : Int), .int .i64 ((64 - n : Nat) : Int), .int .u64 (B : Int), .int .u64 ((A ||| B : Nat) : Int), w64 (rotr x n), w64 (rotr x n)]) ?t74 ?r86
 case' t74 => refine ⟨?_, ?_, ?_, ?_, ?_, ?_, ?_, ?_, ?_, ?_, ?_, ?_, ?_, trivial⟩ <;> intro ev X hT hb hk hf
 ·exact OpOk.lp (fV ev 3 (.pointer (some ⟨w.heap.size, 0, .none⟩)) hk.1) (part_of (HB.out X hT)) hu hs
 ·exact OpOk.m rfl hk.1
 ·exact OpOk.m rfl hk.1
 ·exact OpOk.r (by simp [execOp, fX ev 8 hf.1, fX ev 9 hf.2.1, hb.1, hn64, hA, go_sem])
 ·exact OpOk.m rfl hk.1
 ·exact OpOk.s (fV ev 3 (.pointer (some ⟨w.heap.size, 0, .none⟩)) hk.1) hb
 ·have cW := (fc_part w X w.heap.size (HB.out X hT)).1
  exact OpOk.sc (fX ev 12 hf.1) cW
 ·exact OpOk.m rfl hk.1
 ·exact OpOk.r (by simp [execOp, fX ev 13 hf.1, fX ev 14 hf.2.1, hb.1, hsub, go_sem])
 ·exact OpOk.r (by simp [execOp, fX ev 11 hf.1, fX ev 15 hf.2.1, hb.1, hB, hsh, go_sem])
 ·exact OpOk.r (by simp [execOp, fX ev 10 hf.1, fX ev 16 hf.2.1, hb.1, hAB, go_sem])
 ·refine OpOk.enters (f := 66) (args := #[.agg fc, .int .u64 ((A ||| B : Nat) : Int)]) (W' := X) (by simp [execOp, resolve, invoke, fX ev 7 hf.1, fX ev 17 hf.2.1, hb.1, hb.2.1, go_sem]) ((cut_any (A ||| B) hlt X).mono ?_)
  rintro e X2 ⟨rfl, h2⟩
  exact ⟨_, rfl, by rw [HT.out]; exact rfl, h2⟩
 ·exact OpOk.assign rfl (fX ev 18 hf.1) ⟨rfl, Stay.refl _⟩
 intro X hT
 iterate 13 rintro _ rfl
 have HBB := hide (Below.trans ((Below.refl w.heap.size w).alloc (Nat.le_refl _) (.cells fc 85)) (hT.mono (by simp)))
 clear hT hsub hA hB hAB
 go_wp2
 refine Rest.done ?_
 go_wp2
 go_ret
 exact ⟨rfl, HBB.out⟩
theorem xorw (x y : UInt64) : bits .xor .u64 ((x.toNat : Nat) : Int) ((y.toNat : Nat) : Int) = (((x ^^^ y).toNat : Nat) : Int) := by
 have h1 := UInt64.toNat_lt x
 have h2 := UInt64.toNat_lt y
 rw [u64_xor_nat _ _ (by omega) (by omega), UInt64.toNat_xor]
theorem rbig0_any (x : UInt64) (w : World) : Calls Tryz.prog 67 #[.agg fc, w64 x, .agg (tc 28 34 39)] w fun e w' => e = .returned (w64 (big0 x)) ∧ Below w.heap.size w w' := by
 have hu := Tryz.underlying85
 have hs : (Tryz.prog.info? 85).map (·.size) = some fc.size := by kernel_rfl
 have hw2 := ((on_all w).alloc (.cells fc 85)).alloc (.cells (tc 28 34 39) 83)
 simp only [World.size_alloc] at hw2
 have HB : Hid (∀ X, Stay ((w.alloc (.cells fc 85)).alloc (.cells (tc 28 34 39) 83)) X → X.heap[w.heap.size]? = some (.cells fc 85 (0, 0))) := hide fun X hT => on_blk_mul (hw2.below hT).right
 have CT0 : Hid (∀ X, Stay ((w.alloc (.cells fc 85)).alloc (.cells (tc 28 34 39) 83)) X → X.cell? ⟨w.heap.size + 1, 0, .none⟩ = some (.int .i64 28)) := hide fun X hT => cell_of_blk (hw2.below hT) 0 rfl
 have CT1 : Hid (∀ X, Stay ((w.alloc (.cells fc 85)).alloc (.cells (tc 28 34 39) 83)) X → X.cell? ⟨w.heap.size + 1, 1, .none⟩ = some (.int .i64 34)) := hide fun X hT => cell_of_blk (hw2.below hT) 1 rfl
 have CT2 : Hid (∀ X, Stay ((w.alloc (.cells fc 85)).alloc (.cells (tc 28 34 39) 83)) X → X.cell? ⟨w.heap.size + 1, 2, .none⟩ = some (.int .i64 39)) := hide fun X hT => cell_of_blk (hw2.below hT) 2 rfl
 have hshr := shr_n x 39 (by decide)
 have HSh := hide hshr
 clear hw2 hshr
 go_enter Tryz.func67, Tryz.ntmps67
 go_wp2_with fail
 have hshr := HSh.out
 refine rV (iv [.agg fc, w64 x, .pointer (some ⟨w.heap.size + 1, 0, .none⟩), .int .i64 28, w64 (rotr x 28), .agg fc, w64 x, .pointer (some ⟨w.heap.size + 1, 1, .none⟩), .int .i64 34, w64 (rotr x 34), w64 ((rotr x 28) ^^^ (rotr x 34)), .agg fc, w64 x, .pointer (some ⟨w.heap.size + 1, 2, .none⟩), .int .i64 39, w64 (rotr x 39), w64 (((rotr x 28) ^^^ (rotr x 34)) ^^^ (rotr x 39)), w64 (((rotr x 28) ^^^ (rotr x 34)) ^^^ (rotr x 39))]) ?t75 ?r87
 case' t75 => refine ⟨?_, ?_, ?_, ?_, ?_, ?_, ?_, ?_, ?_, ?_, ?_, ?_, ?_, ?_, ?_, ?_, ?_, ?_, trivial⟩ <;> intro ev X hT hb hk hf
 ·exact OpOk.lp (fV ev 3 (.pointer (some ⟨w.heap.size, 0, .none⟩)) hk.1) (part_of (HB.out X hT)) hu hs
 ·exact OpOk.m rfl hk.1
 ·exact OpOk.s (fV ev 5 (.pointer (some ⟨w.heap.size + 1, 0, .none⟩)) hk.1) hb
 ·have cW := CT0.out X hT
  exact OpOk.sc (fX ev 9 hf.1) cW
 ·refine OpOk.enters (f := 84) (args := #[.agg fc, w64 x, .int .i64 ((28 : Nat) : Int)]) (W' := X) (by simp [execOp, resolve, invoke, fX ev 7 hf.1, fX ev 8 hf.2.1, fX ev 10 hf.2.2.1, hb.1, hb.2.1, go_sem]) ((turn_any x 28 (by decide) X).mono ?_)
  rintro e X2 ⟨rfl, h2⟩
  exact ⟨_, rfl, rfl, h2⟩
 ·exact OpOk.lp (fV ev 3 (.pointer (some ⟨w.heap.size, 0, .none⟩)) hk.1) (part_of (HB.out X hT)) hu hs
 ·exact OpOk.m rfl hk.1
 ·exact OpOk.s (fV ev 5 (.pointer (some ⟨w.heap.size + 1, 0, .none⟩)) hk.1) hb
 ·have cW := CT1.out X hT
  exact OpOk.sc (fX ev 14 hf.1) cW
 ·refine OpOk.enters (f := 84) (args := #[.agg fc, w64 x, .int .i64 ((34 : Nat) : Int)]) (W' := X) (by simp [execOp, resolve, invoke, fX ev 12 hf.1, fX ev 13 hf.2.1, fX ev 15 hf.2.2.1, hb.1, hb.2.1, go_sem]) ((turn_any x 34 (by decide) X).mono ?_)
  rintro e X2 ⟨rfl, h2⟩
  exact ⟨_, rfl, rfl, h2⟩
 ·exact OpOk.w2 (fX ev 11 hf.1) (fX ev 16 hf.2.1) hb xorw
 ·exact OpOk.lp (fV ev 3 (.pointer (some ⟨w.heap.size, 0, .none⟩)) hk.1) (part_of (HB.out X hT)) hu hs
 ·exact OpOk.m rfl hk.1
 ·exact OpOk.s (fV ev 5 (.pointer (some ⟨w.heap.size + 1, 0, .none⟩)) hk.1) hb
 ·have cW := CT2.out X hT
  exact OpOk.sc (fX ev 20 hf.1) cW
 ·refine OpOk.enters (f := 84) (args := #[.agg fc, w64 x, .int .i64 ((39 : Nat) : Int)]) (W' := X) (by simp [execOp, resolve, invoke, fX ev 18 hf.1, fX ev 19 hf.2.1, fX ev 21 hf.2.2.1, hb.1, hb.2.1, go_sem]) ((turn_any x 39 (by decide) X).mono ?_)
  rintro e X2 ⟨rfl, h2⟩
  exact ⟨_, rfl, rfl, h2⟩
 ·exact OpOk.w2 (fX ev 17 hf.1) (fX ev 22 hf.2.1) hb xorw
 ·exact OpOk.assign rfl (fX ev 23 hf.1) ⟨rfl, Stay.refl _⟩
 intro X hT
 iterate 18 rintro _ rfl
 have HBB := hide (Below.trans (((Below.refl w.heap.size w).alloc (Nat.le_refl _) (.cells fc 85)).alloc (by simp) (.cells (tc 28 34 39) 83)) (hT.mono (by simp; omega)))
 clear hT hshr
 go_wp2
 refine Rest.done ?_
 go_wp2
 go_ret
 exact ⟨rfl, HBB.out⟩
theorem rbig1_any (x : UInt64) (w : World) : Calls Tryz.prog 67 #[.agg fc, w64 x, .agg (tc 14 18 41)] w fun e w' => e = .returned (w64 (big1 x)) ∧ Below w.heap.size w w' := by
 have hu := Tryz.underlying85
 have hs : (Tryz.prog.info? 85).map (·.size) = some fc.size := by kernel_rfl
 have hw2 := ((on_all w).alloc (.cells fc 85)).alloc (.cells (tc 14 18 41) 83)
 simp only [World.size_alloc] at hw2
 have HB : Hid (∀ X, Stay ((w.alloc (.cells fc 85)).alloc (.cells (tc 14 18 41) 83)) X → X.heap[w.heap.size]? = some (.cells fc 85 (0, 0))) := hide fun X hT => on_blk_mul (hw2.below hT).right
 have CT0 : Hid (∀ X, Stay ((w.alloc (.cells fc 85)).alloc (.cells (tc 14 18 41) 83)) X → X.cell? ⟨w.heap.size + 1, 0, .none⟩ = some (.int .i64 14)) := hide fun X hT => cell_of_blk (hw2.below hT) 0 rfl
 have CT1 : Hid (∀ X, Stay ((w.alloc (.cells fc 85)).alloc (.cells (tc 14 18 41) 83)) X → X.cell? ⟨w.heap.size + 1, 1, .none⟩ = some (.int .i64 18)) := hide fun X hT => cell_of_blk (hw2.below hT) 1 rfl
 have CT2 : Hid (∀ X, Stay ((w.alloc (.cells fc 85)).alloc (.cells (tc 14 18 41) 83)) X → X.cell? ⟨w.heap.size + 1, 2, .none⟩ = some (.int .i64 41)) := hide fun X hT => cell_of_blk (hw2.below hT) 2 rfl
 have hshr := shr_n x 41 (by decide)
 have HSh := hide hshr
 clear hw2 hshr
 go_enter Tryz.func67, Tryz.ntmps67
 go_wp2_with fail
 have hshr := HSh.out
 refine rV (iv [.agg fc, w64 x, .pointer (some ⟨w.heap.size + 1, 0, .none⟩), .int .i64 14, w64 (rotr x 14), .agg fc, w64 x, .pointer (some ⟨w.heap.size + 1, 1, .none⟩), .int .i64 18, w64 (rotr x 18), w64 ((rotr x 14) ^^^ (rotr x 18)), .agg fc, w64 x, .pointer (some ⟨w.heap.size + 1, 2, .none⟩), .int .i64 41, w64 (rotr x 41), w64 (((rotr x 14) ^^^ (rotr x 18)) ^^^ (rotr x 41)), w64 (((rotr x 14) ^^^ (rotr x 18)) ^^^ (rotr x 41))]) ?t76 ?r88
 case' t76 => refine ⟨?_, ?_, ?_, ?_, ?_, ?_, ?_, ?_, ?_, ?_, ?_, ?_, ?_, ?_, ?_, ?_, ?_, ?_, trivial⟩ <;> intro ev X hT hb hk hf
 ·exact OpOk.lp (fV ev 3 (.pointer (some ⟨w.heap.size, 0, .none⟩)) hk.1) (part_of (HB.out X hT)) hu hs
 ·exact OpOk.m rfl hk.1
 ·exact OpOk.s (fV ev 5 (.pointer (some ⟨w.heap.size + 1, 0, .none⟩)) hk.1) hb
 ·have cW := CT0.out X hT
  exact OpOk.sc (fX ev 9 hf.1) cW
 ·refine OpOk.enters (f := 84) (args := #[.agg fc, w64 x, .int .i64 ((14 : Nat) : Int)]) (W' := X) (by simp [execOp, resolve, invoke, fX ev 7 hf.1, fX ev 8 hf.2.1, fX ev 10 hf.2.2.1, hb.1, hb.2.1, go_sem]) ((turn_any x 14 (by decide) X).mono ?_)
  rintro e X2 ⟨rfl, h2⟩
  exact ⟨_, rfl, rfl, h2⟩
 ·exact OpOk.lp (fV ev 3 (.pointer (some ⟨w.heap.size, 0, .none⟩)) hk.1) (part_of (HB.out X hT)) hu hs
 ·exact OpOk.m rfl hk.1
 ·exact OpOk.s (fV ev 5 (.pointer (some ⟨w.heap.size + 1, 0, .none⟩)) hk.1) hb
 ·have cW := CT1.out X hT
  exact OpOk.sc (fX ev 14 hf.1) cW
 ·refine OpOk.enters (f := 84) (args := #[.agg fc, w64 x, .int .i64 ((18 : Nat) : Int)]) (W' := X) (by simp [execOp, resolve, invoke, fX ev 12 hf.1, fX ev 13 hf.2.1, fX ev 15 hf.2.2.1, hb.1, hb.2.1, go_sem]) ((turn_any x 18 (by decide) X).mono ?_)
  rintro e X2 ⟨rfl, h2⟩
  exact ⟨_, rfl, rfl, h2⟩
 ·exact OpOk.w2 (fX ev 11 hf.1) (fX ev 16 hf.2.1) hb xorw
 ·exact OpOk.lp (fV ev 3 (.pointer (some ⟨w.heap.size, 0, .none⟩)) hk.1) (part_of (HB.out X hT)) hu hs
 ·exact OpOk.m rfl hk.1
 ·exact OpOk.s (fV ev 5 (.pointer (some ⟨w.heap.size + 1, 0, .none⟩)) hk.1) hb
 ·have cW := CT2.out X hT
  exact OpOk.sc (fX ev 20 hf.1) cW
 ·refine OpOk.enters (f := 84) (args := #[.agg fc, w64 x, .int .i64 ((41 : Nat) : Int)]) (W' := X) (by simp [execOp, resolve, invoke, fX ev 18 hf.1, fX ev 19 hf.2.1, fX ev 21 hf.2.2.1, hb.1, hb.2.1, go_sem]) ((turn_any x 41 (by decide) X).mono ?_)
  rintro e X2 ⟨rfl, h2⟩
  exact ⟨_, rfl, rfl, h2⟩
 ·exact OpOk.w2 (fX ev 17 hf.1) (fX ev 22 hf.2.1) hb xorw
 ·exact OpOk.assign rfl (fX ev 23 hf.1) ⟨rfl, Stay.refl _⟩
 intro X hT
 iterate 18 rintro _ rfl
 have HBB := hide (Below.trans (((Below.refl w.heap.size w).alloc (Nat.le_refl _) (.cells fc 85)).alloc (by simp) (.cells (tc 14 18 41) 83)) (hT.mono (by simp; omega)))
 clear hT hshr
 go_wp2
 refine Rest.done ?_
 go_wp2
 go_ret
 exact ⟨rfl, HBB.out⟩
theorem rsmall0_any (x : UInt64) (w : World) : Calls Tryz.prog 65 #[.agg fc, w64 x, .agg (tc 1 8 7)] w fun e w' => e = .returned (w64 (small0 x)) ∧ Below w.heap.size w w' := by
 have hu := Tryz.underlying85
 have hs : (Tryz.prog.info? 85).map (·.size) = some fc.size := by kernel_rfl
 have hw2 := ((on_all w).alloc (.cells fc 85)).alloc (.cells (tc 1 8 7) 83)
 simp only [World.size_alloc] at hw2
 have HB : Hid (∀ X, Stay ((w.alloc (.cells fc 85)).alloc (.cells (tc 1 8 7) 83)) X → X.heap[w.heap.size]? = some (.cells fc 85 (0, 0))) := hide fun X hT => on_blk_mul (hw2.below hT).right
 have CT0 : Hid (∀ X, Stay ((w.alloc (.cells fc 85)).alloc (.cells (tc 1 8 7) 83)) X → X.cell? ⟨w.heap.size + 1, 0, .none⟩ = some (.int .i64 1)) := hide fun X hT => cell_of_blk (hw2.below hT) 0 rfl
 have CT1 : Hid (∀ X, Stay ((w.alloc (.cells fc 85)).alloc (.cells (tc 1 8 7) 83)) X → X.cell? ⟨w.heap.size + 1, 1, .none⟩ = some (.int .i64 8)) := hide fun X hT => cell_of_blk (hw2.below hT) 1 rfl
 have CT2 : Hid (∀ X, Stay ((w.alloc (.cells fc 85)).alloc (.cells (tc 1 8 7) 83)) X → X.cell? ⟨w.heap.size + 1, 2, .none⟩ = some (.int .i64 7)) := hide fun X hT => cell_of_blk (hw2.below hT) 2 rfl
 have hshr : ((x.toNat : Nat) : Int) / (128 : Int) = (((x >>> 7).toNat : Nat) : Int) := shr_n x 7 (by decide)
 have HSh := hide hshr
 clear hw2 hshr
 go_enter Tryz.func65, Tryz.ntmps65
 go_wp2_with fail
 have hshr := HSh.out
 refine rV (iv [.agg fc, w64 x, .pointer (some ⟨w.heap.size + 1, 0, .none⟩), .int .i64 1, w64 (rotr x 1), .agg fc, w64 x, .pointer (some ⟨w.heap.size + 1, 1, .none⟩), .int .i64 8, w64 (rotr x 8), w64 ((rotr x 1) ^^^ (rotr x 8)), w64 x, .pointer (some ⟨w.heap.size + 1, 2, .none⟩), .int .i64 7, w64 (x >>> 7), w64 (((rotr x 1) ^^^ (rotr x 8)) ^^^ (x >>> 7)), w64 (((rotr x 1) ^^^ (rotr x 8)) ^^^ (x >>> 7))]) ?t77 ?r89
 case' t77 => refine ⟨?_, ?_, ?_, ?_, ?_, ?_, ?_, ?_, ?_, ?_, ?_, ?_, ?_, ?_, ?_, ?_, ?_, trivial⟩ <;> intro ev X hT hb hk hf
 ·exact OpOk.lp (fV ev 3 (.pointer (some ⟨w.heap.size, 0, .none⟩)) hk.1) (part_of (HB.out X hT)) hu hs
 ·exact OpOk.m rfl hk.1
 ·exact OpOk.s (fV ev 5 (.pointer (some ⟨w.heap.size + 1, 0, .none⟩)) hk.1) hb
 ·have cW := CT0.out X hT
  exact OpOk.sc (fX ev 9 hf.1) cW
 ·refine OpOk.enters (f := 84) (args := #[.agg fc, w64 x, .int .i64 ((1 : Nat) : Int)]) (W' := X) (by simp [execOp, resolve, invoke, fX ev 7 hf.1, fX ev 8 hf.2.1, fX ev 10 hf.2.2.1, hb.1, hb.2.1, go_sem]) ((turn_any x 1 (by decide) X).mono ?_)
  rintro e X2 ⟨rfl, h2⟩
  exact ⟨_, rfl, rfl, h2⟩
 ·exact OpOk.lp (fV ev 3 (.pointer (some ⟨w.heap.size, 0, .none⟩)) hk.1) (part_of (HB.out X hT)) hu hs
 ·exact OpOk.m rfl hk.1
 ·exact OpOk.s (fV ev 5 (.pointer (some ⟨w.heap.size + 1, 0, .none⟩)) hk.1) hb
 ·have cW := CT1.out X hT
  exact OpOk.sc (fX ev 14 hf.1) cW
 ·refine OpOk.enters (f := 84) (args := #[.agg fc, w64 x, .int .i64 ((8 : Nat) : Int)]) (W' := X) (by simp [execOp, resolve, invoke, fX ev 12 hf.1, fX ev 13 hf.2.1, fX ev 15 hf.2.2.1, hb.1, hb.2.1, go_sem]) ((turn_any x 8 (by decide) X).mono ?_)
  rintro e X2 ⟨rfl, h2⟩
  exact ⟨_, rfl, rfl, h2⟩
 ·exact OpOk.w2 (fX ev 11 hf.1) (fX ev 16 hf.2.1) hb xorw
 ·exact OpOk.m rfl hk.1
 ·exact OpOk.s (fV ev 5 (.pointer (some ⟨w.heap.size + 1, 0, .none⟩)) hk.1) hb
 ·have cW := CT2.out X hT
  exact OpOk.sc (fX ev 19 hf.1) cW
 ·exact OpOk.w2 (fX ev 18 hf.1) (fX ev 20 hf.2.1) hb hshr
 ·exact OpOk.w2 (fX ev 17 hf.1) (fX ev 21 hf.2.1) hb xorw
 ·exact OpOk.assign rfl (fX ev 22 hf.1) ⟨rfl, Stay.refl _⟩
 intro X hT
 iterate 17 rintro _ rfl
 have HBB := hide (Below.trans (((Below.refl w.heap.size w).alloc (Nat.le_refl _) (.cells fc 85)).alloc (by simp) (.cells (tc 1 8 7) 83)) (hT.mono (by simp; omega)))
 clear hT hshr
 go_wp2
 refine Rest.done ?_
 go_wp2
 go_ret
 exact ⟨rfl, HBB.out⟩
theorem rsmall1_any (x : UInt64) (w : World) : Calls Tryz.prog 65 #[.agg fc, w64 x, .agg (tc 19 61 6)] w fun e w' => e = .returned (w64 (small1 x)) ∧ Below w.heap.size w w' := by
 have hu := Tryz.underlying85
 have hs : (Tryz.prog.info? 85).map (·.size) = some fc.size := by kernel_rfl
 have hw2 := ((on_all w).alloc (.cells fc 85)).alloc (.cells (tc 19 61 6) 83)
 simp only [World.size_alloc] at hw2
 have HB : Hid (∀ X, Stay ((w.alloc (.cells fc 85)).alloc (.cells (tc 19 61 6) 83)) X → X.heap[w.heap.size]? = some (.cells fc 85 (0, 0))) := hide fun X hT => on_blk_mul (hw2.below hT).right
 have CT0 : Hid (∀ X, Stay ((w.alloc (.cells fc 85)).alloc (.cells (tc 19 61 6) 83)) X → X.cell? ⟨w.heap.size + 1, 0, .none⟩ = some (.int .i64 19)) := hide fun X hT => cell_of_blk (hw2.below hT) 0 rfl
 have CT1 : Hid (∀ X, Stay ((w.alloc (.cells fc 85)).alloc (.cells (tc 19 61 6) 83)) X → X.cell? ⟨w.heap.size + 1, 1, .none⟩ = some (.int .i64 61)) := hide fun X hT => cell_of_blk (hw2.below hT) 1 rfl
 have CT2 : Hid (∀ X, Stay ((w.alloc (.cells fc 85)).alloc (.cells (tc 19 61 6) 83)) X → X.cell? ⟨w.heap.size + 1, 2, .none⟩ = some (.int .i64 6)) := hide fun X hT => cell_of_blk (hw2.below hT) 2 rfl
 have hshr : ((x.toNat : Nat) : Int) / (64 : Int) = (((x >>> 6).toNat : Nat) : Int) := shr_n x 6 (by decide)
 have HSh := hide hshr
 clear hw2 hshr
 go_enter Tryz.func65, Tryz.ntmps65
 go_wp2_with fail
 have hshr := HSh.out
 refine rV (iv [.agg fc, w64 x, .pointer (some ⟨w.heap.size + 1, 0, .none⟩), .int .i64 19, w64 (rotr x 19), .agg fc, w64 x, .pointer (some ⟨w.heap.size + 1, 1, .none⟩), .int .i64 61, w64 (rotr x 61), w64 ((rotr x 19) ^^^ (rotr x 61)), w64 x, .pointer (some ⟨w.heap.size + 1, 2, .none⟩), .int .i64 6, w64 (x >>> 6), w64 (((rotr x 19) ^^^ (rotr x 61)) ^^^ (x >>> 6)), w64 (((rotr x 19) ^^^ (rotr x 61)) ^^^ (x >>> 6))]) ?t78 ?r90
 case' t78 => refine ⟨?_, ?_, ?_, ?_, ?_, ?_, ?_, ?_, ?_, ?_, ?_, ?_, ?_, ?_, ?_, ?_, ?_, trivial⟩ <;> intro ev X hT hb hk hf
 ·exact OpOk.lp (fV ev 3 (.pointer (some ⟨w.heap.size, 0, .none⟩)) hk.1) (part_of (HB.out X hT)) hu hs
 ·exact OpOk.m rfl hk.1
 ·exact OpOk.s (fV ev 5 (.pointer (some ⟨w.heap.size + 1, 0, .none⟩)) hk.1) hb
 ·have cW := CT0.out X hT
  exact OpOk.sc (fX ev 9 hf.1) cW
 ·refine OpOk.enters (f := 84) (args := #[.agg fc, w64 x, .int .i64 ((19 : Nat) : Int)]) (W' := X) (by simp [execOp, resolve, invoke, fX ev 7 hf.1, fX ev 8 hf.2.1, fX ev 10 hf.2.2.1, hb.1, hb.2.1, go_sem]) ((turn_any x 19 (by decide) X).mono ?_)
  rintro e X2 ⟨rfl, h2⟩
  exact ⟨_, rfl, rfl, h2⟩
 ·exact OpOk.lp (fV ev 3 (.pointer (some ⟨w.heap.size, 0, .none⟩)) hk.1) (part_of (HB.out X hT)) hu hs
 ·exact OpOk.m rfl hk.1
 ·exact OpOk.s (fV ev 5 (.pointer (some ⟨w.heap.size + 1, 0, .none⟩)) hk.1) hb
 ·have cW := CT1.out X hT
  exact OpOk.sc (fX ev 14 hf.1) cW
 ·refine OpOk.enters (f := 84) (args := #[.agg fc, w64 x, .int .i64 ((61 : Nat) : Int)]) (W' := X) (by simp [execOp, resolve, invoke, fX ev 12 hf.1, fX ev 13 hf.2.1, fX ev 15 hf.2.2.1, hb.1, hb.2.1, go_sem]) ((turn_any x 61 (by decide) X).mono ?_)
  rintro e X2 ⟨rfl, h2⟩
  exact ⟨_, rfl, rfl, h2⟩
 ·exact OpOk.w2 (fX ev 11 hf.1) (fX ev 16 hf.2.1) hb xorw
 ·exact OpOk.m rfl hk.1
 ·exact OpOk.s (fV ev 5 (.pointer (some ⟨w.heap.size + 1, 0, .none⟩)) hk.1) hb
 ·have cW := CT2.out X hT
  exact OpOk.sc (fX ev 19 hf.1) cW
 ·exact OpOk.w2 (fX ev 18 hf.1) (fX ev 20 hf.2.1) hb hshr
 ·exact OpOk.w2 (fX ev 17 hf.1) (fX ev 21 hf.2.1) hb xorw
 ·exact OpOk.assign rfl (fX ev 22 hf.1) ⟨rfl, Stay.refl _⟩
 intro X hT
 iterate 17 rintro _ rfl
 have HBB := hide (Below.trans (((Below.refl w.heap.size w).alloc (Nat.le_refl _) (.cells fc 85)).alloc (by simp) (.cells (tc 19 61 6) 83)) (hT.mono (by simp; omega)))
 clear hT hshr
 go_wp2
 refine Rest.done ?_
 go_wp2
 go_ret
 exact ⟨rfl, HBB.out⟩
abbrev nv (n : Nat) : Value := .int .u64 (n : Int)
abbrev ownN (v : Value) (l : List Nat) : SP := own 50 1 v l.length (l.map nv)
def KW : List Nat := [4794697086780616226, 8158064640168781261, 13096744586834688815, 16840607885511220156, 4131703408338449720, 6480981068601479193, 10538285296894168987, 12329834152419229976, 15566598209576043074, 1334009975649890238, 2608012711638119052, 6128411473006802146, 8268148722764581231, 9286055187155687089, 11230858885718282805, 13951009754708518548, 16472876342353939154, 17275323862435702243, 1135362057144423861, 2597628984639134821, 3308224258029322869, 5365058923640841347, 6679025012923562964, 8573033837759648693, 10970295158949994411, 12119686244451234320, 12683024718118986047, 13788192230050041572, 14330467153632333762, 15395433587784984357, 489312712824947311, 1452737877330783856, 2861767655752347644, 3322285676063803686, 5560940570517711597, 5996557281743188959, 7280758554555802590, 8532644243296465576, 9350256976987008742, 10552545826968843579, 11727347734174303076, 12113106623233404929, 14000437183269869457, 14369950271660146224, 15101387698204529176, 15463397548674623760, 17586052441742319658, 1182934255886127544, 1847814050463011016, 2177327727835720531, 2830643537854262169, 3796741975233480872, 4115178125766777443, 5681478168544905931, 6601373596472566643, 7507060721942968483, 8399075790359081724, 8693463985226723168, 9568029438360202098, 10144078919501101548, 10430055236837252648, 11840083180663258601, 13761210420658862357, 14299343276471374635, 14566680578165727644, 15097957966210449927, 16922976911328602910, 17689382322260857208, 500013540394364858, 748580250866718886, 1242879168328830382, 1977374033974150939, 2944078676154940804, 3659926193048069267, 4368137639120453308, 4836135668995329356, 5532061633213252278, 6448918945643986474, 6902733635092675308, 7801388544844847127]
def HW : List Nat := [7640891576956012808, 13503953896175478587, 4354685564936845355, 11912009170470909681, 5840696475078001361, 11170449401992604703, 2270897969802886507, 6620516959819538809]
theorem KW_len : KW.length = 80 := rfl
theorem KW_arr : (KW.map nv).toArray = #[Value.int .u64 4794697086780616226, .int .u64 8158064640168781261, .int .u64 13096744586834688815, .int .u64 16840607885511220156, .int .u64 4131703408338449720, .int .u64 6480981068601479193, .int .u64 10538285296894168987, .int .u64 12329834152419229976, .int .u64 15566598209576043074, .int .u64 1334009975649890238, .int .u64 2608012711638119052, .int .u64 6128411473006802146, .int .u64 8268148722764581231, .int .u64 9286055187155687089, .int .u64 11230858885718282805, .int .u64 13951009754708518548, .int .u64 16472876342353939154, .int .u64 17275323862435702243, .int .u64 1135362057144423861, .int .u64 2597628984639134821, .int .u64 3308224258029322869, .int .u64 5365058923640841347, .int .u64 6679025012923562964, .int .u64 8573033837759648693, .int .u64 10970295158949994411, .int .u64 12119686244451234320, .int .u64 12683024718118986047, .int .u64 13788192230050041572, .int .u64 14330467153632333762, .int .u64 15395433587784984357, .int .u64 489312712824947311, .int .u64 1452737877330783856, .int .u64 2861767655752347644, .int .u64 3322285676063803686, .int .u64 5560940570517711597, .int .u64 5996557281743188959, .int .u64 7280758554555802590, .int .u64 8532644243296465576, .int .u64 9350256976987008742, .int .u64 10552545826968843579, .int .u64 11727347734174303076, .int .u64 12113106623233404929, .int .u64 14000437183269869457, .int .u64 14369950271660146224, .int .u64 15101387698204529176, .int .u64 15463397548674623760, .int .u64 17586052441742319658, .int .u64 1182934255886127544, .int .u64 1847814050463011016, .int .u64 2177327727835720531, .int .u64 2830643537854262169, .int .u64 3796741975233480872, .int .u64 4115178125766777443, .int .u64 5681478168544905931, .int .u64 6601373596472566643, .int .u64 7507060721942968483, .int .u64 8399075790359081724, .int .u64 8693463985226723168, .int .u64 9568029438360202098, .int .u64 10144078919501101548, .int .u64 10430055236837252648, .int .u64 11840083180663258601, .int .u64 13761210420658862357, .int .u64 14299343276471374635, .int .u64 14566680578165727644, .int .u64 15097957966210449927, .int .u64 16922976911328602910, .int .u64 17689382322260857208, .int .u64 500013540394364858, .int .u64 748580250866718886, .int .u64 1242879168328830382, .int .u64 1977374033974150939, .int .u64 2944078676154940804, .int .u64 3659926193048069267, .int .u64 4368137639120453308, .int .u64 4836135668995329356, .int .u64 5532061633213252278, .int .u64 6448918945643986474, .int .u64 6902733635092675308, .int .u64 7801388544844847127] := rfl
theorem HW_arr : (HW.map nv).toArray = #[Value.int .u64 7640891576956012808, .int .u64 13503953896175478587, .int .u64 4354685564936845355, .int .u64 11912009170470909681, .int .u64 5840696475078001361, .int .u64 11170449401992604703, .int .u64 2270897969802886507, .int .u64 6620516959819538809] := rfl
theorem KW_get : ∀ i, i < 80 → KW.getD i 0 / 2 ^ (64 - 64) = (K i).toNat ∧ KW.getD i 0 < 18446744073709551616 := by decide +kernel
theorem HW_get : ∀ i, i < 8 → HW.getD i 0 / 2 ^ (64 - 64) = (H0.list.getD i 0).toNat ∧ HW.getD i 0 < 18446744073709551616 := by decide +kernel
theorem words_any (w : World) : Calls Tryz.prog 64 #[] w (Makes w fun v => ownN v KW) := by
 have h := own_new 50 1 80 (KW.map nv) (on_all w) rfl (by decide)
 rw [KW_arr] at h
 have H := hide h
 have HS := hide ((Str.refl w).alloc (.cells #[.int .u64 4794697086780616226, .int .u64 8158064640168781261, .int .u64 13096744586834688815, .int .u64 16840607885511220156, .int .u64 4131703408338449720, .int .u64 6480981068601479193, .int .u64 10538285296894168987, .int .u64 12329834152419229976, .int .u64 15566598209576043074, .int .u64 1334009975649890238, .int .u64 2608012711638119052, .int .u64 6128411473006802146, .int .u64 8268148722764581231, .int .u64 9286055187155687089, .int .u64 11230858885718282805, .int .u64 13951009754708518548, .int .u64 16472876342353939154, .int .u64 17275323862435702243, .int .u64 1135362057144423861, .int .u64 2597628984639134821, .int .u64 3308224258029322869, .int .u64 5365058923640841347, .int .u64 6679025012923562964, .int .u64 8573033837759648693, .int .u64 10970295158949994411, .int .u64 12119686244451234320, .int .u64 12683024718118986047, .int .u64 13788192230050041572, .int .u64 14330467153632333762, .int .u64 15395433587784984357, .int .u64 489312712824947311, .int .u64 1452737877330783856, .int .u64 2861767655752347644, .int .u64 3322285676063803686, .int .u64 5560940570517711597, .int .u64 5996557281743188959, .int .u64 7280758554555802590, .int .u64 8532644243296465576, .int .u64 9350256976987008742, .int .u64 10552545826968843579, .int .u64 11727347734174303076, .int .u64 12113106623233404929, .int .u64 14000437183269869457, .int .u64 14369950271660146224, .int .u64 15101387698204529176, .int .u64 15463397548674623760, .int .u64 17586052441742319658, .int .u64 1182934255886127544, .int .u64 1847814050463011016, .int .u64 2177327727835720531, .int .u64 2830643537854262169, .int .u64 3796741975233480872, .int .u64 4115178125766777443, .int .u64 5681478168544905931, .int .u64 6601373596472566643, .int .u64 7507060721942968483, .int .u64 8399075790359081724, .int .u64 8693463985226723168, .int .u64 9568029438360202098, .int .u64 10144078919501101548, .int .u64 10430055236837252648, .int .u64 11840083180663258601, .int .u64 13761210420658862357, .int .u64 14299343276471374635, .int .u64 14566680578165727644, .int .u64 15097957966210449927, .int .u64 16922976911328602910, .int .u64 17689382322260857208, .int .u64 500013540394364858, .int .u64 748580250866718886, .int .u64 1242879168328830382, .int .u64 1977374033974150939, .int .u64 2944078676154940804, .int .u64 3659926193048069267, .int .u64 4368137639120453308, .int .u64 4836135668995329356, .int .u64 5532061633213252278, .int .u64 6448918945643986474, .int .u64 6902733635092675308, .int .u64 7801388544844847127] 50))
 clear h
 go_enter Tryz.func64, Tryz.ntmps64
 go_wp2
 go_ret
 exact ⟨_, rfl, H.out, HS.out⟩
theorem start_any (w : World) : Calls Tryz.prog 63 #[] w (Makes w fun v => ownN v HW) := by
 have h := own_new 50 1 8 (HW.map nv) (on_all w) rfl (by decide)
 rw [HW_arr] at h
 have H := hide h
 have HS := hide ((Str.refl w).alloc (.cells #[.int .u64 7640891576956012808, .int .u64 13503953896175478587, .int .u64 4354685564936845355, .int .u64 11912009170470909681, .int .u64 5840696475078001361, .int .u64 11170449401992604703, .int .u64 2270897969802886507, .int .u64 6620516959819538809] 50))
 clear h
 go_enter Tryz.func63, Tryz.ntmps63
 go_wp2
 go_ret
 exact ⟨_, rfl, H.out, HS.out⟩
theorem constant_any (y : Nat) (hy : y < 18446744073709551616) (w : World) : Calls Tryz.prog 62 #[.agg fc, .int .u64 (y : Int)] w fun e w' => e = .returned (.int .u64 ((y / 2 ^ (64 - 64) : Nat) : Int)) ∧ Below w.heap.size w w' := by
 go_enter Tryz.func62, Tryz.ntmps62
 go_wp2
 go_ret
 exact ⟨congrArg (fun v => Ending.returned (Value.int .u64 v)) (by simp), (Below.refl _ _).alloc (Nat.le_refl _) _⟩
theorem andw (x y : UInt64) : bits .and .u64 ((x.toNat : Nat) : Int) ((y.toNat : Nat) : Int) = (((x &&& y).toNat : Nat) : Int) := by
 have h1 := UInt64.toNat_lt x
 have h2 := UInt64.toNat_lt y
 rw [u64_and_nat _ _ (by omega) (by omega), UInt64.toNat_and]
theorem orw (x y : UInt64) : bits .or .u64 ((x.toNat : Nat) : Int) ((y.toNat : Nat) : Int) = (((x ||| y).toNat : Nat) : Int) := by
 have h1 := UInt64.toNat_lt x
 have h2 := UInt64.toNat_lt y
 rw [u64_or_nat _ _ (by omega) (by omega), UInt64.toNat_or]
theorem notw (x : UInt64) : bits .xor .u64 IntKind.u64.max ((x.toNat : Nat) : Int) = ((18446744073709551615 - x.toNat : Nat) : Int) := by
 have h1 := UInt64.toNat_lt x
 rw [not_u64 _ (by omega)]
theorem not_cut (x : UInt64) : (18446744073709551615 - x.toNat) % 18446744073709551616 = (~~~x).toNat := by
 have h1 := UInt64.toNat_lt x
 rw [UInt64.toNat_not]
 simp only [UInt64.size] at h1 ⊢
 omega
theorem ch_eq (x y z : UInt64) : (x &&& y) ^^^ (~~~x &&& z) = (x &&& y) ||| (~~~x &&& z) := by
 apply UInt64.toBitVec_inj.1
 apply BitVec.eq_of_getLsbD_eq
 intro i hi
 simp only [UInt64.toBitVec_xor, UInt64.toBitVec_and, UInt64.toBitVec_or, UInt64.toBitVec_not, BitVec.getLsbD_xor, BitVec.getLsbD_and, BitVec.getLsbD_or, BitVec.getLsbD_not]
 generalize x.toBitVec.getLsbD i = p
 generalize y.toBitVec.getLsbD i = q
 generalize z.toBitVec.getLsbD i = r
 generalize decide (i < 64) = d
 cases p <;> cases q <;> cases r <;> cases d <;> rfl
theorem maj_eq (x y z : UInt64) : ((x &&& y) ^^^ (x &&& z)) ^^^ (y &&& z) = ((x &&& y) ||| (x &&& z)) ||| (y &&& z) := by
 apply UInt64.toBitVec_inj.1
 apply BitVec.eq_of_getLsbD_eq
 intro i hi
 simp only [UInt64.toBitVec_xor, UInt64.toBitVec_and, UInt64.toBitVec_or, BitVec.getLsbD_xor, BitVec.getLsbD_and, BitVec.getLsbD_or]
 generalize x.toBitVec.getLsbD i = p
 generalize y.toBitVec.getLsbD i = q
 generalize z.toBitVec.getLsbD i = r
 cases p <;> cases q <;> cases r <;> rfl
def chW (s : St) : UInt64 := (s.e &&& s.f) ||| (~~~s.e &&& s.g)
def maW (s : St) : UInt64 := ((s.a &&& s.b) ||| (s.a &&& s.c)) ||| (s.b &&& s.c)
abbrev m64 (n : Nat) : Nat := n % 18446744073709551616
theorem p_nat (s : St) (k w : UInt64) : (pOf s k w).toNat = m64 (m64 (m64 (m64 (s.h.toNat + (big1 s.e).toNat) + (chW s).toNat) + k.toNat) + w.toNat) % 18446744073709551616 := by
 unfold pOf chW m64
 rw [ch_eq]
 simp only [UInt64.toNat_add]
 omega
theorem pq_nat (s : St) (k w : UInt64) : (pOf s k w + qOf s).toNat = m64 (m64 (m64 (m64 (m64 (s.h.toNat + (big1 s.e).toNat) + (chW s).toNat) + k.toNat) + w.toNat) + m64 ((big0 s.a).toNat + (maW s).toNat)) % 18446744073709551616 := by
 rw [UInt64.toNat_add, p_nat]
 unfold qOf maW m64
 rw [maj_eq]
 simp only [UInt64.toNat_add]
 omega
theorem dp_nat (s : St) (k w : UInt64) : (s.d + pOf s k w).toNat = m64 (s.d.toNat + m64 (m64 (m64 (m64 (s.h.toNat + (big1 s.e).toNat) + (chW s).toNat) + k.toNat) + w.toNat)) % 18446744073709551616 := by
 rw [UInt64.toNat_add, p_nat]
 unfold m64
 omega
def stN (s : St) : List Value := [w64 s.a, w64 s.b, w64 s.c, w64 s.d, w64 s.e, w64 s.f, w64 s.g, w64 s.h]
theorem stN_list (s : St) : stN s = (s.list.map (·.toNat)).map nv := rfl
def RQ (g gs gw gk j : Nat) (s : St) (xw : UInt64) (kj : Nat) (Y : World) : Prop :=
 Y.heap[g]? = some (.cells fc 85 (0, 0)) ∧ (∀ t x, (stN s)[t]? = some x → Y.cell? ⟨gs, t, .none⟩ = some x) ∧ Y.cell? ⟨gw, j, .none⟩ = some (w64 xw) ∧ Y.cell? ⟨gk, j, .none⟩ = some (nv kj)
theorem fc_big0 {X : World} {g : Nat} (h : X.heap[g]? = some (.cells fc 85 (0, 0))) : ∀ j v, (tc 28 34 39)[j]? = some v → X.cell? ⟨g, 2 + j, .none⟩ = some v := by
 intro j v hj
 rw [cell_of_row _ _ _ _ _ _ h]
 match j, hj with
 | 0, hj => exact hj
 | 1, hj => exact hj
 | 2, hj => exact hj
 | n + 3, hj => simp [tc] at hj
theorem fc_big1 {X : World} {g : Nat} (h : X.heap[g]? = some (.cells fc 85 (0, 0))) : ∀ j v, (tc 14 18 41)[j]? = some v → X.cell? ⟨g, 5 + j, .none⟩ = some v := by
 intro j v hj
 rw [cell_of_row _ _ _ _ _ _ h]
 match j, hj with
 | 0, hj => exact hj
 | 1, hj => exact hj
 | 2, hj => exact hj
 | n + 3, hj => simp [tc] at hj
theorem wrap_m64 (a b : Nat) : IntKind.u64.wrap ((a : Int) + (b : Int)) = ((m64 (a + b) : Nat) : Int) := by
 rw [IntKind.wrap_u64]
 unfold m64
 omega
theorem m64_lt (n : Nat) : m64 n < 18446744073709551616 := by unfold m64; omega
theorem shr_out (x q : Nat) (hq : q < 8) : Op.shift .shr .u64 (x : Int) .i64 (8 * ((8 - 1 : Int) - (q : Int))) = (Pure.pure (.int .u64 ((x : Int) / 2 ^ (56 - 8 * q))) : Sem Value) := by
 have e : 8 * ((8 - 1 : Int) - (q : Int)) = 56 - 8 * (q : Int) := by omega
 rw [e, shift_shr_any _ _ _ _ (by omega)]
 congr 2
 have e : (56 - 8 * (q : Int)).toNat = 56 - 8 * q := by omega
 rw [e]
 have hb : IntKind.u64.bits = 64 := rfl
 rw [hb, Nat.min_eq_left (by omega)]
def outN (s : St) (i : Nat) : List UInt8 := (s.list.take i).flatMap (fun x => outW x 8)
theorem outN_step (s : St) (i : Nat) (x : UInt64) (hx : s.list[i]? = some x) : outN s (i + 1) = outN s i ++ outW x 8 := by
 unfold outN
 rw [List.take_add_one, hx, List.flatMap_append]
 simp
theorem outN_all (s : St) : outN s 8 = outS s := by
 simp [outN, outS, St.list, List.flatMap]
theorem outN_len (s : St) : ∀ i, i ≤ 8 → (outN s i).length = 8 * i
 | 0, _ => rfl
 | i + 1, h => by
  have hx : s.list[i]? = some (s.list.getD i 0) := by
   rw [List.getD_eq_getElem?_getD, List.getElem?_eq_getElem (show i < s.list.length by simp [St.list]; omega)]; rfl
  rw [outN_step s i _ hx, List.length_append, outN_len s i (by omega), outW_len]
  omega
def sliceLenH : Value → Nat
 | .slice _ n _ => n
 | _ => 0
theorem info64 : (Tryz.prog.info? 50).map (fun i => (i.zero, i.size, i.bytes)) = some (some (.int .u64 0), 1, 8) := by kernel_rfl
theorem nv_one (l : List Nat) : ∀ u ∈ l.map nv, u.oneCell' = true := by
 intro u hu
 simp at hu
 obtain ⟨x, _, rfl⟩ := hu
 rfl
theorem isb1r (w : World) (k : Nat) (hk : k = w.heap.size) (x : UInt8) (v : Value) (hv : v = vb x) (t : TypeId) : IsBytes (w.alloc (.cells #[v] t)) (.slice (some ⟨k, 0, .none⟩) 1 1) [x] := by
 subst hk hv
 exact IsBytes.new w [x] (by simp [maxLen]) t
theorem shr_at (n k : Nat) (hn : 8 * n ≤ 1000000000) (hk : k < 16) : Op.shift .shr .u64 (8 * (n : Int)) .i64 (8 * ((16 - 1 : Int) - (k : Int))) = (Pure.pure (.int .u64 (8 * (n : Int) / 2 ^ (120 - 8 * k))) : Sem Value) := by
 have e : 8 * ((16 - 1 : Int) - (k : Int)) = 120 - 8 * (k : Int) := by omega
 rw [e]
 exact shr_len n k (by omega) hk
theorem byte_high (n k : Nat) (hn : 8 * n ≤ 1000000000) (hk : ¬(16 - 1 - k < 8)) : byteK (8 * n) (120 - 8 * k) = 0 := by
 have h1 : 2 ^ 64 ≤ 2 ^ (120 - 8 * k) := Nat.pow_le_pow_right (by decide) (by omega)
 have h2 : 8 * n / 2 ^ (120 - 8 * k) = 0 := Nat.div_eq_of_lt (by omega)
 unfold byteK
 rw [h2]
 rfl
theorem wpList_append_nums {F : SP} {w : World} {ops : Array Oper} {rest : List Oper} {o : Oper} {a : Act} {Q : Exit → Act → World → Prop} (hgd : o.guard = Option.none) (s x : Operand) (t : TypeId)
  (ho : o.op = .call { callee := .builtin .append, args := #[s, x], argTypes := #[t, t] }) (ht : Tryz.prog.underlying t = some (.slice 50))
  (v : Value) (l m : List Nat) (hs : a.eval s = v) (hown : (ownN v l * F).on w)
  (ad : Option Addr) (c : Nat) (hx : a.eval x = .slice ad m.length c) (hac : ad = Option.none → c = 0) (hl : Lay w ad (m.map nv)) (hb : l.length + m.length ≤ 1000000)
  (h : ∀ v' w', (ownN v' (l ++ m) * F).on w' → Str w w' → wpList Tryz.prog ops Q rest (a.put o.dst v') w') : wpList Tryz.prog ops Q (o :: rest) a w := by
 obtain ⟨i, hq, hz, hsz, hby⟩ := info_some info64
 refine wpList_append_sp hgd s x t ho 50 i (.int .u64 0) 1 8 ht hq hz hsz hby rfl (by decide) v l.length (l.map nv) hs hown ad m.length c (m.map nv) hx hac (by simp) hl (nv_one m) (by unfold maxLen; omega) (by omega) ?_
 intro v' w' h2 h3
 refine h v' w' ?_ h3
 show (own 50 1 v' (l ++ m).length ((l ++ m).map nv) * F).on w'
 rw [List.map_append, List.length_append]
 exact h2
theorem word_next (m : List UInt8) (at' : Nat) : ∀ n, n ≤ 8 → (wordN m at' n).toNat < 2 ^ (8 * n) ∧ (n < 8 → (wordN m at' (n + 1)).toNat = (wordN m at' n).toNat * 256 + (m.getD (at' + n) 0).toNat)
 | n, hn => by
  have hlt : ∀ n, n ≤ 8 → (wordN m at' n).toNat < 2 ^ (8 * n) → n < 8 → (wordN m at' (n + 1)).toNat = (wordN m at' n).toNat * 256 + (m.getD (at' + n) 0).toNat := by
   intro n hn hb hw
   have hc := UInt8.toNat_lt (m.getD (at' + n) 0)
   have hp : 2 ^ (8 * n) * 256 ≤ 2 ^ 64 := by
    rw [show (256 : Nat) = 2 ^ 8 from rfl, ← Nat.pow_add]
    exact Nat.pow_le_pow_right (by decide) (by omega)
   simp only [wordN]
   generalize wordN m at' n = x at *
   generalize m.getD (at' + n) 0 = c at *
   have h1 : x.toNat * 256 < 2 ^ 64 := by
    have : x.toNat * 256 < 2 ^ (8 * n) * 256 := by omega
    omega
   rw [UInt64.toNat_or, UInt64.toNat_shiftLeft]
   have e8 : (8 : UInt64).toNat % 64 = 8 := rfl
   have ec : (c.toUInt64).toNat = c.toNat := by simp
   rw [e8, ec, Nat.shiftLeft_eq, Nat.mod_eq_of_lt (show x.toNat * 2 ^ 8 < 2 ^ 64 from h1)]
   have := Nat.shiftLeft_add_eq_or_of_lt (show c.toNat < 2 ^ 8 from hc) x.toNat
   rw [Nat.shiftLeft_eq] at this
   omega
  have hb : ∀ n, n ≤ 8 → (wordN m at' n).toNat < 2 ^ (8 * n) := by
   intro n
   induction n with
   | zero => intro _; simp [wordN]
   | succ n ih =>
    intro hn
    have h1 := ih (by omega)
    have h2 := hlt n (by omega) h1 (by omega)
    have hc := UInt8.toNat_lt (m.getD (at' + n) 0)
    rw [h2, show 8 * (n + 1) = 8 * n + 8 by omega, Nat.pow_add]
    omega
  exact ⟨hb n hn, fun h => hlt n hn (hb n hn) h⟩
abbrev PIv (A F : SP) (w : World) (ph : Bool) (X : World) : Prop := if ph then F.on X ∧ Str w X else (A * F).on X ∧ Str w X
theorem PIv.frame {A F : SP} {w : World} {ph : Bool} {X : World} (h : PIv A F w ph X) : F.on X ∧ Str w X := by
 cases ph with
 | true => exact h
 | false => exact ⟨h.1.right, h.2⟩
theorem PIv.stay {A F : SP} {w : World} (ph : Bool) (X Y : World) (h : PIv A F w ph X) (k : Stay X Y) : PIv A F w ph Y := by
 cases ph <;> exact ⟨SP.on.below h.1 k, h.2.trans (Str.below k)⟩
theorem ownN_cell {v : Value} {l : List Nat} {X : World} (h : (ownN v l).on X) (i : Nat) (hi : i < l.length) : ∃ g c, v = .slice (some ⟨g, 0, .none⟩) l.length c ∧ X.cell? ⟨g, i, .none⟩ = some (nv (l.getD i 0)) := by
 have h' := on_mul_emp.2 h
 obtain ⟨g, c, rfl, _, _⟩ := own_block h' (by omega)
 refine ⟨g, c, rfl, own_cell h' i _ ?_⟩
 rw [List.getElem?_map, List.getD_eq_getElem?_getD, List.getElem?_eq_getElem hi]
 rfl
def Nums (v : Value) (X : World) (l : List Nat) : Prop := ∃ a c, v = .slice a l.length c ∧ (a = Option.none → c = 0) ∧ Lay X a (l.map nv)
theorem Nums.below {v : Value} {X Y : World} {l : List Nat} (h : Nums v X l) (k : Stay X Y) : Nums v Y l := by
 obtain ⟨a, c, h1, h2, h3⟩ := h
 exact ⟨a, c, h1, h2, h3.below k⟩
theorem Nums.one (w : World) (n : Nat) (t : TypeId) : Nums (.slice (some ⟨w.heap.size, 0, .none⟩) 1 1) (w.alloc (.cells #[nv n] t)) [n] :=
 ⟨_, _, rfl, fun h => (nomatch h), Lay.new w [nv n] t⟩
theorem OpOk.append_nums {o : Oper} {ev : Operand → Value} {W : World} {R : Value → World → Prop} {F : SP} (s x : Operand) (t : TypeId)
  (ho : o.op = .call { callee := .builtin .append, args := #[s, x], argTypes := #[t, t] }) (ht : Tryz.prog.underlying t = some (.slice 50))
  (v : Value) (l m : List Nat) (hs : ev s = v) (hown : (ownN v l * F).on W) (hm : Nums (ev x) W m) (hb : l.length + m.length ≤ 1000000)
  (h : ∀ v' w', (ownN v' (l ++ m) * F).on w' → Str W w' → R v' w') : OpOk Tryz.prog o ev W R := by
 obtain ⟨ad, c, hx, hc, hl⟩ := hm
 obtain ⟨i, hq, hz, hsz, hby⟩ := info_some info64
 obtain ⟨v', w', hr, h2, h3⟩ := run_append_sp (P := Tryz.prog) t o.type 50 i (.int .u64 0) 1 8 ht hq hz hsz hby rfl (by decide) v l.length (l.map nv) hown ad m.length c (m.map nv) hc (by simp) hl (nv_one m) (by unfold maxLen; omega) (by omega)
 unfold OpOk execOp
 simp only [ho, resolve, invoke, builtin, Sem.run_bind, Sem.run_pure, Result.andThen_ok, List.map_toArray, List.map_cons, List.map_nil, hs, hx, hr]
 refine h v' w' ?_ h3
 show (own 50 1 v' (l ++ m).length ((l ++ m).map nv) * F).on w'
 rw [List.map_append, List.length_append]
 exact h2
theorem fc_small0 {X : World} {g : Nat} (h : X.heap[g]? = some (.cells fc 85 (0, 0))) : ∀ j v, (tc 1 8 7)[j]? = some v → X.cell? ⟨g, 8 + j, .none⟩ = some v := by
 intro j v hj
 rw [cell_of_row _ _ _ _ _ _ h]
 match j, hj with
 | 0, hj => exact hj
 | 1, hj => exact hj
 | 2, hj => exact hj
 | n + 3, hj => simp [tc] at hj
theorem fc_small1 {X : World} {g : Nat} (h : X.heap[g]? = some (.cells fc 85 (0, 0))) : ∀ j v, (tc 19 61 6)[j]? = some v → X.cell? ⟨g, 11 + j, .none⟩ = some v := by
 intro j v hj
 rw [cell_of_row _ _ _ _ _ _ h]
 match j, hj with
 | 0, hj => exact hj
 | 1, hj => exact hj
 | 2, hj => exact hj
 | n + 3, hj => simp [tc] at hj
theorem wrap_add64 (a b : Nat) : IntKind.u64.wrap ((a : Int) + (b : Int)) = (((a + b) % 18446744073709551616 : Nat) : Int) := by
 rw [IntKind.wrap_u64]
 omega
theorem rsum_any (v : Value) (b : List UInt8) (w : World) (hb : IsBytes w v b) (hlen : b.length ≤ 100000000) :
  Calls Tryz.prog 35 #[.agg fc, v] w (Makes w fun v => own 5 1 v (digest b).length (vbs (digest b))) := by
 have hu := Tryz.underlying35
 have Hb := hide hb
 obtain ⟨a, c, rfl, hc, hm, _, _⟩ := hb
 unfold maxLen at hm
 have h0 := (on_all w).alloc (.cells fc 85)
 have hs0 := (Str.refl w).alloc (.cells fc 85)
 have h1 := own_new 5 1 0 [] h0 rfl (by decide)
 simp only [World.size_alloc] at h1
 have H0 := hide h1
 have HS0 := hide hs0
 have HbX : Hid (∀ X, (all w).on X → True) := hide fun _ _ => trivial
 have Hb1 := hide ((Hb.out.below ((Below.refl w.heap.size w).alloc (Nat.le_refl _) (.cells fc 85))).below ((Below.refl _ _).alloc (Nat.le_refl _) (.cells #[] 5)))
 clear h0 h1 hs0 HbX
 go_enter Tryz.func35, Tryz.ntmps35
 go_wp2_with (first
  | (at_builtin; refine wpList_append_bytes (F := blk w.heap.size (.cells fc 85 (0, 0)) * all w) rfl _ _ 35 rfl 5 hu info8 _ b [128] rfl (H1.out.alloc' _) _ rfl (by have h9 := IsBytes.new w1 [128] (by decide) 5; exact h9) (by simp; omega) ?_; intro v2 w2 ho hs; simp only [List.length_append, List.length_cons, List.length_nil, Nat.zero_add] at ho; have H2 := hide ho; have HS2 := hide ((HS1.out.alloc _).trans hs); obtain ⟨aa, ac, rfl, _, _, _, _⟩ := own_value ho; clear ho hs)
  | (at_builtin; refine wpList_append_bytes (F := blk w.heap.size (.cells fc 85 (0, 0)) * all w) rfl _ _ 35 rfl 5 hu info8 _ [] b rfl H0.out _ rfl Hb1.out (by simp; omega) ?_; intro v1 w1 ho hs; rw [List.nil_append] at ho; have H1 := hide ho; have HS1 := hide ((HS0.out.alloc _).trans hs); obtain ⟨ba, bc, rfl, _, _, _, _⟩ := own_value ho; clear ho hs))
 clear H0 HS0 Hb1 H1 HS1
 rename Exit → Act → World → Prop => Q0
 go_loopw [6] (fun av wr => ∃ z : Nat, z ≤ padZ b.length ∧ (own 5 1 av (b.length + 1 + z) (vbs (b ++ [128] ++ List.replicate z 0)) * (blk w.heap.size (.cells fc 85 (0, 0)) * all w)).on wr ∧ Str w wr) (fun av _ => (112 + 128 - sliceLenH av % 128) % 128)
 case atStart => exact ⟨0, Nat.zero_le _, by rw [List.replicate_zero, List.append_nil]; exact H2.out, HS2.out⟩
 rename Exit → Act → World → Prop => Qr1
 obtain ⟨z, hz, hw, hstr⟩ := hrel
 obtain ⟨aa2, ac2, rfl, _, _, _, _⟩ := own_value hw
 have hzB : padZ b.length < 128 := by unfold padZ; omega
 have hzP : (b.length + 1 + padZ b.length) % 128 = 112 := by unfold padZ; omega
 have hll : (b ++ [128] ++ List.replicate z 0).length = b.length + 1 + z := by simp; omega
 have Hll := hide hll
 by_cases hP : (b.length + 1 + z) % 128 = 112
 ·obtain rfl : z = padZ b.length := by unfold padZ at hz ⊢; omega
  have hne : (((b.length : Int) + 1 + (padZ b.length : Int)) % 128 != 112) = false := by simp; omega
  have HD := hide (show padded b = (b ++ [128] ++ List.replicate (padZ b.length) 0) ++ lenB (8 * b.length) 16 from rfl)
  have Hpm := hide (padded_mod b)
  have hN : b.length + 1 + padZ b.length ≤ 100001000 := by omega
  have HN := hide hN
  have HW := hide hw
  have HSt := hide hstr
  clear hw hstr hP hzP hzB hll hz H2 HS2
  generalize b ++ [128] ++ List.replicate (padZ b.length) 0 = X0 at *
  have hn8 : 8 * b.length ≤ 1000000000 := by omega
  go_wp2_with fail
  clear hne
  generalize hNN : b.length + 1 + padZ b.length = N0 at *
  go_loopw [6, 7] (fun av i wr => ∃ k : Nat, k ≤ 16 ∧ i = .int .i64 k ∧ (own 5 1 av (N0 + k) (vbs (X0 ++ lenB (8 * b.length) k)) * (blk w.heap.size (.cells fc 85 (0, 0)) * all w)).on wr ∧ Str w wr) (fun _ i _ => 16 - (intOf i).toNat)
  case atStart => exact ⟨0, Nat.zero_le _, rfl, by unfold lenB; rw [List.append_nil]; exact HW.out, HSt.out⟩
  rename Exit → Act → World → Prop => Qr2
  obtain ⟨k, hk, rfl, hw, hstr⟩ := hrel
  obtain ⟨aa3, ac3, rfl, _, _, _, _⟩ := own_value hw
  by_cases hlt : k < 16
  ·try clear_value Q0; try clear_value Qr1
   as_aux_lemma =>
   have HK := hide (show X0 ++ lenB (8 * b.length) (k + 1) = (X0 ++ lenB (8 * b.length) k) ++ [byteK (8 * b.length) (120 - 8 * k)] by rw [List.append_assoc]; rfl)
   have hYl : (X0 ++ lenB (8 * b.length) k).length = N0 + k := by have := (own_cases hw).1; simp only [vbs, List.length_map] at this; omega
   have HYl := hide hYl
   have HW2 := hide hw
   have HS2 := hide hstr
   clear hw hstr HW HSt hYl
   generalize X0 ++ lenB (8 * b.length) k = Y at *
   by_cases h8 : 16 - 1 - k < 8
   ·have hshr := shr_at b.length k hn8 hlt
    have h8i : ((16 : Int) - 1 - (k : Int)) < 8 := by omega
    go_wp2_with (at_builtin; refine wpList_append_bytes (F := blk w.heap.size (.cells fc 85 (0, 0)) * all w) rfl _ _ 35 rfl 5 hu info8 _ Y [byteK (8 * b.length) (120 - 8 * k)] rfl (by rw [HYl.out]; exact HW2.out.alloc' _) _ rfl (isb1r _ _ (by simp) _ _ (by refine congrArg (Value.int _) ?_; unfold byteK; simp [IntKind.wrap_u8]; try rw [show 8 * (15 - k) = 120 - 8 * k by omega]) _) (by rw [HYl.out]; simp; omega) ?_; intro v3 w3 ho hs; rw [List.length_append, HYl.out, ← HK.out] at ho; have H3 := hide ho; have HS3 := hide ((HS2.out.alloc _).trans hs); obtain ⟨aa4, ac4, rfl, _, _, _, _⟩ := own_value ho; clear ho hs)
    exact ⟨⟨k + 1, by omega, by simp, H3.out, HS3.out⟩, by simp [intOf]; omega⟩
   have h8i : ¬((16 : Int) - 1 - (k : Int)) < 8 := by omega
   have HZ := hide (byte_high b.length k hn8 h8)
   clear h8
   go_wp2_with (at_builtin; refine wpList_append_bytes (F := blk w.heap.size (.cells fc 85 (0, 0)) * all w) rfl _ _ 35 rfl 5 hu info8 _ Y [byteK (8 * b.length) (120 - 8 * k)] rfl (by rw [HYl.out]; exact HW2.out.alloc' _) _ rfl (isb1r _ _ (by simp) _ _ (by rw [HZ.out]; rfl) _) (by rw [HYl.out]; simp; omega) ?_; intro v3 w3 ho hs; rw [List.length_append, HYl.out, ← HK.out] at ho; have H3 := hide ho; have HS3 := hide ((HS2.out.alloc _).trans hs); obtain ⟨aa4, ac4, rfl, _, _, _, _⟩ := own_value ho; clear ho hs)
   all_goals exact ⟨⟨k + 1, by omega, by simp, H3.out, HS3.out⟩, by simp [intOf]; omega⟩
  obtain rfl : k = 16 := by omega
  rw [← HD.out] at hw
  have HPl : Hid ((padded b).length = N0 + 16) := hide (by have := (own_cases hw).1; simp only [vbs, List.length_map] at this; omega)
  have HW2 := hide hw
  have HS2 := hide hstr
  clear hw hstr HW HSt
  generalize hP0 : padded b = PD at *
  have HP0 := hide hP0
  clear hP0
  go_wp2_with fail
  rw [show ((16 : Nat) : Int) = (16 : Int) from rfl]
  have H0L : Hid (H0.list.length = 8) := hide rfl
  have Hw0 : Hid ((ownN (.slice Option.none 0 0) ((H0.list.take 0).map (·.toNat)) * (own 5 1 (.slice aa3 (N0 + 16) ac3) (N0 + 16) (vbs PD) * (blk w.heap.size (.cells fc 85 (0, 0)) * all w))).on wr) := hide (own_nil 50 1 HW2.out)
  generalize hF1 : (own 5 1 (.slice aa3 (N0 + 16) ac3) (N0 + 16) (vbs PD) * (blk w.heap.size (.cells fc 85 (0, 0)) * all w)) = F1 at Hw0
  have HF1 := hide hF1
  clear hF1
  have HFc : Hid (∀ X, F1.on X → X.heap[w.heap.size]? = some (.cells fc 85 (0, 0))) := hide fun X hX => by rw [← HF1.out] at hX; exact on_blk_mul hX.right
  have hu31 := Tryz.underlying85
  have hs31 : (Tryz.prog.info? 85).map (·.size) = some fc.size := by kernel_rfl
  have hu74 := Tryz.underlying116
  go_loopw [9, 10] (fun hv i wr => ∃ k : Nat, k ≤ 8 ∧ i = .int .i64 k ∧ (ownN hv ((H0.list.take k).map (·.toNat)) * F1).on wr ∧ Str w wr) (fun _ i _ => 8 - (intOf i).toNat)
  case atStart => exact ⟨0, Nat.zero_le _, rfl, Hw0.out, HS2.out⟩
  rename Exit → Act → World → Prop => Qr3
  obtain ⟨k, hk, rfl, hw, hstr⟩ := hrel
  have hln : ((H0.list.take k).map (·.toNat)).length = k := by rw [List.length_map, List.length_take, H0L.out]; omega
  obtain ⟨ha, hc2, rfl, _, _, _, _⟩ := own_value hw
  rw [hln] at hw ⊢
  by_cases hlt : k < 8
  ·try clear_value Q0; try clear_value Qr1; try clear_value Qr2
   as_aux_lemma =>
   have hHg := HW_get k hlt
   have hx : H0.list[k]? = some (H0.list.getD k 0) := by rw [List.getD_eq_getElem?_getD, List.getElem?_eq_getElem (by rw [H0L.out]; exact hlt)]; rfl
   have HN := hide (show (H0.list.take (k + 1)).map (·.toNat) = (H0.list.take k).map (·.toNat) ++ [(H0.list.getD k 0).toNat] by
    rw [List.take_add_one, hx, List.map_append]; rfl)
   have HHl := hide hln
   have HW3 := hide hw
   have HS3 := hide hstr
   have k8 : (k : Int) < 8 := by omega
   clear hw hstr hln hx Hw0 HS2 HW2
   generalize (H0.list.take k).map (·.toNat) = hl at *
   generalize (H0.list.getD k 0).toNat = hk' at *
   obtain ⟨hHg1, hHg2⟩ := hHg
   have HHG := hide hHg1
   clear hHg1
   go_wp2_with fail
   refine AppK.wp_region_app 8 [isV (.slice ha k hc2), isV (.agg fc), (fun v X => (ownN v HW).on X), isV (.int .i64 (k : Int)), (fun v X => ∃ g, v = .pointer (some ⟨g, k, .none⟩) ∧ X.cell? ⟨g, k, .none⟩ = some (nv (HW.getD k 0))), isV (nv (HW.getD k 0)), isV (nv hk'), (fun v X => Nums v X [hk']), (fun _ _ => True), (fun _ _ => False)]
    [isV (.slice ha k hc2), isV (.agg fc), (fun _ _ => True), isV (.int .i64 (k : Int)), (fun _ _ => True), isV (nv (HW.getD k 0)), isV (nv hk'), (fun _ _ => True), (fun v X => (ownN v (hl ++ [hk']) * F1).on X), (fun v X => (ownN v (hl ++ [hk']) * F1).on X)] _ rfl (by kernel_rfl) (by kernel_rfl) rfl (by decide) (PIv (ownN (.slice ha k hc2) hl) F1 w) ⟨SP.on.drew HW3.out, Str.drew HS3.out⟩ PIv.stay ?keep ?keep2 ?store ?todo ?r91
   case keep => exact ⟨Keep.isV _, Keep.isV _, fun _ _ _ h k => SP.on.below h k, Keep.isV _, fun _ _ _ ⟨g, h1, h2⟩ k => ⟨g, h1, (k.cell (World.block_lt_of_cell? _ _ h2)).trans h2⟩, Keep.isV _, Keep.isV _, fun _ _ _ h k => Nums.below h k, fun _ _ _ h _ => h, fun _ _ _ h _ => h, trivial⟩
   case keep2 => exact ⟨Keep.isV _, Keep.isV _, fun _ _ _ h _ => h, Keep.isV _, fun _ _ _ h _ => h, Keep.isV _, Keep.isV _, fun _ _ _ h _ => h, fun _ _ _ h k => SP.on.below h k, fun _ _ _ h k => SP.on.below h k, trivial⟩
   case store =>
    intro ev X hT hb hk hf
    have e1 : Nums (ev (.tmp 85)) X [hk'] := hf.2.1
    refine OpOk.append_nums (F := F1) _ _ _ rfl hu74 _ hl [hk'] (fX ev 78 hf.1) hT.1 e1 (by rw [HHl.out]; simp; omega) ?_
    intro v' X2 ho hs
    refine ⟨⟨ho.right, hT.2.trans hs⟩, ho, ?_⟩
    intro i his hv
    match i, his, hv with
    | 0, _, hv => exact hv
    | 1, _, hv => exact hv
    | 2, _, _ => exact trivial
    | 3, _, hv => exact hv
    | 4, _, _ => exact trivial
    | 5, _, hv => exact hv
    | 6, _, hv => exact hv
    | 7, _, _ => exact trivial
    | 8, h, _ => exact absurd rfl h
    | 9, _, hv => exact hv.elim
    | n + 10, _, _ => exact trivial
   case todo =>
    refine ⟨?_, ?_, ?_, ?_, ?_, ?_, ?_, ?_, ?_, ?_, trivial⟩
    ·refine pK fun ev X hT hb hk hf => ?_
     have e0 : ev (.tmp 9) = .slice ha k hc2 := fP hk.1 (by kernel_rfl)
     exact OpOk.m rfl e0
    ·refine pK fun ev X hT hb hk hf => ?_
     exact OpOk.lp (fV ev 2 (.pointer (some ⟨w.heap.size, 0, .none⟩)) hk.1) (part_of (HFc.out X hT.frame.1)) hu31 hs31
    ·refine pK fun ev X hT hb hk hf => ?_
     refine OpOk.enters (by simp [execOp, resolve, invoke, hb.2.1, go_sem]) ((start_any X).mono ?_)
     rintro e X2 ⟨v', rfl, h3, h4⟩
     exact ⟨_, rfl, h3.left, all_below h3.right h4⟩
    ·refine pK fun ev X hT hb hk hf => ?_
     exact OpOk.m rfl (fV ev 10 (.int .i64 (k : Int)) hk.1)
    ·refine pK fun ev X hT hb hk hf => ?_
     have e0 := hf.1
     have e1 := fX ev 81 hf.2.1
     obtain ⟨g, c9, e9, h9⟩ := ownN_cell e0 k (by exact hlt)
     exact OpOk.run (v := .pointer (some ⟨g, k, .none⟩)) (W' := X) (by have e8 : ev (.tmp 80) = .slice (some ⟨g, 0, .none⟩) 8 c9 := e9; simp [execOp, e8, e1, hb.1, k8, go_sem]) ⟨⟨g, rfl, h9⟩, Stay.refl _⟩
    ·refine pK fun ev X hT hb hk hf => ?_
     have e0 := hf.1
     obtain ⟨g, e9, h9⟩ := e0
     exact OpOk.run (v := nv (HW.getD k 0)) (W' := X) (by have e8 : ev (.tmp 82) = .pointer (some ⟨g, k, .none⟩) := e9; simp [execOp, e8, h9, go_sem, -List.getD_eq_getElem?_getD]) ⟨rfl, Stay.refl _⟩
    ·refine pK fun ev X hT hb hk hf => ?_
     refine OpOk.enters (f := 62) (args := #[.agg fc, nv (HW.getD k 0)]) (W' := X) (by simp [execOp, resolve, invoke, fX ev 79 hf.1, fX ev 83 hf.2.1, hb.1, hb.2.1, go_sem]) ((constant_any (HW.getD k 0) hHg2 X).mono ?_)
     rintro e X2 ⟨rfl, h2⟩
     exact ⟨_, rfl, by rw [HHG.out]; exact rfl, h2⟩
    ·refine pK fun ev X hT hb hk hf => ?_
     exact OpOk.run (v := .slice (some ⟨X.heap.size, 0, .none⟩) 1 1) (W' := X.alloc (.cells #[nv hk'] 50)) (by simp [execOp, fX ev 84 hf.1, go_sem]) ⟨Nums.one X hk' _, (Below.refl _ _).alloc (Nat.le_refl _) _⟩
    ·exact fun h => absurd rfl h
    intro _ ph h1 h2
    obtain rfl : ph = true := h1 (by kernel_rfl)
    intro ev X hT hb hk hf
    have e0 := hf.1
    exact OpOk.assign rfl rfl ⟨e0, Stay.refl _⟩
   intro X hT
   rintro _ rfl _ rfl _ - _ rfl _ - _ rfl _ rfl _ - v8 - v9 h9
   have h9' : (ownN v9 (hl ++ [hk']) * F1).on X := h9
   obtain ⟨ha9, hc9, e9, _, _, _, _⟩ := own_value h9'
   rw [show (hl ++ [hk']).length = k + 1 by rw [List.length_append, HHl.out]; rfl] at e9
   subst e9
   rw [← HN.out] at h9'
   have H9 := hide h9'
   have HT9 := hide hT.2
   clear h9 h9' hT
   go_wp2
   refine Rest.done ?_
   go_wp2
   exact ⟨⟨k + 1, by omega, by simp, H9.out, HT9.out⟩, by simp [intOf]; omega⟩
  obtain rfl : k = 8 := by omega
  have e8 : (H0.list.take 8).map (·.toNat) = H0.list.map (·.toNat) := by rw [List.take_of_length_le (by rw [H0L.out]; exact Nat.le_refl _)]
  rw [e8] at hw
  have HW3 := hide hw
  have HS3 := hide hstr
  clear hw hstr hln e8 Hw0 HS2 HW2
  go_wp2_with fail
  refine (words_any wr).mono ?_
  rintro e w3 ⟨kv, rfl, ho, hs3⟩
  have h4 := on_all_to ho HW3.out
  obtain ⟨ka, kc, rfl, _, _, _, _⟩ := own_value h4
  have H4 : Hid ((ownN (.slice ha 8 hc2) ((stK PD 0).list.map (·.toNat)) * (ownN (.slice ka KW.length kc) KW * F1)).on w3) := hide (by refine (SP.le_of_eq ?_).on h4; ac_rfl)
  have HS4 := hide (HS3.out.trans hs3)
  clear ho hs3 h4 HW3 HS3
  go_wp2_with fail
  have HPD8 : Hid (PD.length = N0 + 16) := HPl
  have HmB : Hid (PD.length % 128 = 0) := Hpm
  go_loopw [12] (fun i wr => ∃ k : Nat, 128 * k ≤ PD.length ∧ i = .int .i64 ((128 : Int) * (k : Int)) ∧ (ownN (.slice ha 8 hc2) ((stK PD k).list.map (·.toNat)) * (ownN (.slice ka KW.length kc) KW * F1)).on wr ∧ Str w wr) (fun i _ => PD.length - (intOf i).toNat)
  case atStart => exact ⟨0, Nat.zero_le _, rfl, H4.out, HS4.out⟩
  rename Exit → Act → World → Prop => Qr4
  obtain ⟨k, hk, rfl, hw, hstr⟩ := hrel
  have hpl := HPD8.out
  by_cases hlt : 128 * k < N0 + 16
  ·have hm2 : 128 * k + 128 ≤ PD.length := by have := HmB.out; omega
   have hml : ((PD.drop (128 * k)).take 128).length = 128 := by rw [List.length_take, List.length_drop]; omega
   have hmg : ∀ j, j < 128 → PD[128 * k + j]? = some (((PD.drop (128 * k)).take 128).getD j 0) := by
    intro j hj
    rw [List.getD_eq_getElem?_getD, List.getElem?_take, if_pos hj, List.getElem?_drop, List.getElem?_eq_getElem (by omega)]
    rfl
   have HC := hide (show stK PD (k + 1) = compress (stK PD k) ((PD.drop (128 * k)).take 128) from rfl)
   have Hmg := hide hmg
   have Hm2 := hide hm2
   have HW4 := hide hw
   have HS5 := hide hstr
   clear hmg hml hw hstr H4 HS4
   generalize (PD.drop (128 * k)).take 128 = m at *
   have hltI : ((128 : Int) * (k : Int)) < (N0 : Int) + 16 := by omega
   have HFp : Hid (∀ X, F1.on X → Lay X (some ⟨0, 0, .none⟩) [] → True) := hide fun _ _ _ => trivial
   have HAll : Hid (∀ X, F1.on X → ∀ j, j < 128 → ∃ bg bo, aa3 = some ⟨bg, bo, .none⟩ ∧ X.cell? ⟨bg, bo + (128 * k + j), .none⟩ = some (vb (m.getD j 0))) := hide fun X hX j hj => by
    rw [← HF1.out] at hX
    obtain ⟨_, _, e1, _, _, hl, _⟩ := own_value hX
    simp only [Value.slice.injEq] at e1
    obtain ⟨rfl, _, rfl⟩ := e1
    exact hl (128 * k + j) _ (by rw [List.getElem?_map, Hmg.out j hj]; rfl)
   generalize hF3 : (ownN (.slice ha 8 hc2) ((stK PD k).list.map (·.toNat)) * (ownN (.slice ka KW.length kc) KW * F1)) = F3 at HW4
   have HF3 := hide hF3
   clear hF3 HFp
   have Hw0 : Hid ((ownN (.slice Option.none 0 0) ((sched m 0).map (·.toNat)) * F3).on wr) := hide (own_nil 50 1 HW4.out)
   go_wp2_with fail
   go_loopw [13, 14] (fun wv' i wr => ∃ i' : Nat, i' ≤ 80 ∧ i = .int .i64 i' ∧ (own 50 1 wv' i' (((sched m i').map (·.toNat)).map nv) * F3).on wr ∧ Str w wr) (fun _ i _ => 80 - (intOf i).toNat)
   case atStart => exact ⟨0, Nat.zero_le _, rfl, Hw0.out, HS5.out⟩
   rename Exit → Act → World → Prop => Qr5
   obtain ⟨i', hi, rfl, hw, hstr⟩ := hrel
   obtain ⟨wa, wc, rfl, _, _, _, _⟩ := own_value hw
   by_cases hlt2 : i' < 80
   ·have HW5 := hide hw
    have HS6 := hide hstr
    have HF13 : Hid (∀ X, F3.on X → F1.on X) := hide fun X hX => by rw [← HF3.out] at hX; exact hX.right.right
    have cR := (fc_part w wr w.heap.size (HFc.out wr (HF13.out wr hw.right))).2
    clear hw hstr Hw0 HS5 HW4
    by_cases h16 : i' < 16
    ·try clear_value Q0; try clear_value Qr1; try clear_value Qr2; try clear_value Qr3; try clear_value Qr4
     as_aux_lemma =>
     have h16i : (i' : Int) < 16 := by omega
     go_wp2_with fail
     go_loopw [15, 16] (fun xv i wr2 => ∃ n : Nat, n ≤ 8 ∧ i = .int .i64 n ∧ xv = .int .u64 ((wordN m (8 * i') n).toNat : Int) ∧ wr2 = wr) (fun _ i _ => 8 - (intOf i).toNat)
     case atStart => exact ⟨0, Nat.zero_le _, rfl, rfl, rfl⟩
     rename Exit → Act → World → Prop => Qr6
     obtain ⟨n, hn, rfl, rfl, rfl⟩ := hrel
     obtain ⟨hwn, hwx⟩ := word_next m (8 * i') n hn
     by_cases hnt : n < 8
     ·obtain ⟨bg, bo, hba, cb⟩ := HAll.out _ (HF13.out _ HW5.out.right) (8 * i' + n) (by omega)
      subst hba
      rw [show bo + (128 * k + (8 * i' + n)) = bo + (128 * k + i' * 8 + n) by omega] at cb
      have HX := hide (hwx hnt)
      have hxb : (wordN m (8 * i') n).toNat < 2 ^ 56 := Nat.lt_of_lt_of_le hwn (Nat.pow_le_pow_right (by decide) (by omega))
      have hin : 128 * k + (8 * i' + n) < N0 + 16 := by have := Hm2.out; omega
      clear hwn hwx
      generalize m.getD (8 * i' + n) 0 = cB at *
      generalize hxx : (wordN m (8 * i') n).toNat = xx at *
      have HXX := hide hxx
      clear hxx
      have hcB := UInt8.toNat_lt cB
      go_wp2_with fail
      exact ⟨⟨n + 1, by omega, by simp, congrArg (Value.int _) (by rw [HX.out]; omega), trivial⟩, by simp [intOf]; omega⟩
     obtain rfl : n = 8 := by omega
     have HSn := hide (show (sched m (i' + 1)).map (·.toNat) = (sched m i').map (·.toNat) ++ [(wordN m (8 * i') 8).toNat] by simp only [sched, if_pos h16, List.map_append]; rfl)
     have hxl := UInt64.toNat_lt (wordN m (8 * i') 8)
     have Hfcw := hide (HFc.out _ (HF13.out _ HW5.out.right))
     have hsl : ((sched m i').map (·.toNat)).length = i' := by rw [List.length_map, sched_len]
     have HSl := hide hsl
     clear hwn hwx hsl
     generalize (sched m i').map (·.toNat) = sl at *
     generalize (wordN m (8 * i') 8).toNat = xx at *
     go_wp2_with (refine wpList_load_row rfl _ _ rfl w.heap.size rfl _ fc _ _ Hfcw.out hu31 rfl hs31 ?_)
     refine (cut_any xx (by omega) wr).mono ?_
     rintro e w5 ⟨rfl, hb5⟩
     have HW6 := hide (HW5.out.below hb5)
     have HS7 := hide (HS6.out.trans (Str.below hb5))
     rw [show xx % 18446744073709551616 = xx from Nat.mod_eq_of_lt hxl]
     clear hb5 Hfcw
     go_wp2_with (at_builtin; refine wpList_append_nums (F := F3) rfl _ _ _ rfl hu74 _ sl [xx] rfl (by unfold ownN; rw [HSl.out]; exact HW6.out.alloc' _) _ _ rfl (fun h => by cases h) (Lay.new w5 [nv xx] _) (by rw [HSl.out]; simp; omega) ?_; intro v6 w6 ho hs; rw [← HSn.out] at ho; have H6 := hide ho; have HS8 := hide ((HS7.out.alloc _).trans hs); clear ho hs)
     have H6o := H6.out
     obtain ⟨wa6, wc6, rfl, _, _, _, _⟩ := own_value H6o
     have HSl1 : ((sched m (i' + 1)).map (·.toNat)).length = i' + 1 := by rw [List.length_map, sched_len]
     unfold ownN at H6o
     rw [HSl1] at H6o ⊢
     exact ⟨⟨i' + 1, by omega, by simp, H6o, HS8.out⟩, by simp [intOf]; omega⟩
    try clear_value Q0; try clear_value Qr1; try clear_value Qr2; try clear_value Qr3; try clear_value Qr4
    as_aux_lemma =>
    have hsl : ((sched m i').map (·.toNat)).length = i' := by rw [List.length_map, sched_len]
    have HSl := hide hsl
    obtain ⟨gw, wcc, ew, _, _⟩ := own_block HW5.out (by omega)
    simp only [Value.slice.injEq] at ew
    obtain ⟨rfl, _, rfl⟩ := ew
    have HFcs : Hid (∀ X, Stay wr X → X.heap[w.heap.size]? = some (.cells fc 85 (0, 0))) := hide fun X k => HFc.out X (HF13.out X (SP.on.below HW5.out.right k))
    have HCs : Hid (∀ X, Stay wr X → ∀ j, j < i' → X.cell? ⟨gw, j, .none⟩ = some (w64 ((sched m i').getD j 0))) := hide fun X k j hj => own_cell (SP.on.below HW5.out k) j _ (by
     rw [List.getD_eq_getElem?_getD, List.getElem?_map, List.getElem?_map, List.getElem?_eq_getElem (by rw [sched_len]; exact hj)]
     rfl)
    obtain ⟨j16, hj16⟩ : ∃ j, j = i' - 16 := ⟨_, rfl⟩
    obtain ⟨j15, hj15⟩ : ∃ j, j = i' - 15 := ⟨_, rfl⟩
    obtain ⟨j7, hj7⟩ : ∃ j, j = i' - 7 := ⟨_, rfl⟩
    obtain ⟨j2, hj2⟩ : ∃ j, j = i' - 2 := ⟨_, rfl⟩
    have hs16 : IntKind.i64.wrap ((i' : Int) - 16) = (j16 : Int) := by rw [IntWalk.i64_in _ (by omega)]; omega
    have hs15 : IntKind.i64.wrap ((i' : Int) - 15) = (j15 : Int) := by rw [IntWalk.i64_in _ (by omega)]; omega
    have hs7 : IntKind.i64.wrap ((i' : Int) - 7) = (j7 : Int) := by rw [IntWalk.i64_in _ (by omega)]; omega
    have hs2 : IntKind.i64.wrap ((i' : Int) - 2) = (j2 : Int) := by rw [IntWalk.i64_in _ (by omega)]; omega
    have hn16 : nextW (sched m i') i' = ((sched m i').getD j16 0 + small0 ((sched m i').getD j15 0)) + (sched m i').getD j7 0 + small1 ((sched m i').getD j2 0) := by unfold nextW; rw [hj16, hj15, hj7, hj2]
    have hb16 : j16 < i' := by omega
    have hb15 : j15 < i' := by omega
    have hb7 : j7 < i' := by omega
    have hb2 : j2 < i' := by omega
    have k16 : (j16 : Int) < (i' : Int) := by omega
    have k15 : (j15 : Int) < (i' : Int) := by omega
    have k7 : (j7 : Int) < (i' : Int) := by omega
    have k2 : (j2 : Int) < (i' : Int) := by omega
    have hc16 := fun X k => HCs.out X k j16 hb16
    have hc15 := fun X k => HCs.out X k j15 hb15
    have hc7 := fun X k => HCs.out X k j7 hb7
    have hc2' := fun X k => HCs.out X k j2 hb2
    have HSn0 : Hid ((sched m (i' + 1)).map (·.toNat) = (sched m i').map (·.toNat) ++ [(nextW (sched m i') i').toNat]) := hide (by simp only [sched, if_neg h16, List.map_append]; rfl)
    rw [hn16] at HSn0
    generalize (sched m i').getD j16 0 = x16 at *
    generalize (sched m i').getD j15 0 = x15 at *
    generalize (sched m i').getD j7 0 = x7 at *
    generalize (sched m i').getD j2 0 = x2 at *
    obtain ⟨A14, kA14, hA14⟩ : ∃ A, A = (x16.toNat + (small0 x15).toNat) % 18446744073709551616 ∧ IntKind.u64.wrap (((x16.toNat : Nat) : Int) + (((small0 x15).toNat : Nat) : Int)) = (A : Int) := ⟨_, rfl, wrap_add64 _ _⟩
    obtain ⟨A20, kA20, hA20⟩ : ∃ A, A = (A14 + x7.toNat) % 18446744073709551616 ∧ IntKind.u64.wrap ((A14 : Int) + ((x7.toNat : Nat) : Int)) = (A : Int) := ⟨_, rfl, wrap_add64 _ _⟩
    obtain ⟨A30, kA30, hA30⟩ : ∃ A, A = (A20 + (small1 x2).toNat) % 18446744073709551616 ∧ IntKind.u64.wrap ((A20 : Int) + (((small1 x2).toNat : Nat) : Int)) = (A : Int) := ⟨_, rfl, wrap_add64 _ _⟩
    have hlt30 : A30 < 18446744073709551616 := by omega
    have hfin : (x16 + small0 x15 + x7 + small1 x2).toNat = A30 % 18446744073709551616 := by simp only [UInt64.toNat_add]; omega
    rw [hfin] at HSn0
    have HSn := HSn0
    have h16i : ¬(i' : Int) < 16 := by omega
    have hu29 := Tryz.underlying83
    have hs29 : (Tryz.prog.info? 83).map (·.size) = some (tc 1 8 7).size := by kernel_rfl
    have hs29b : (Tryz.prog.info? 83).map (·.size) = some (tc 19 61 6).size := by kernel_rfl
    clear hfin hn16 hj16 hj15 hj7 hj2 kA14 kA20 kA30 hsl HSn0
    generalize (sched m i').map (·.toNat) = sl at *
    go_wp2_with fail
    refine rV (iv [.slice (some ⟨gw, 0, .none⟩) i' wc, .int .i64 (i' : Int), .int .i64 (j16 : Int), .pointer (some ⟨gw, j16, .none⟩), w64 x16, .agg fc, .slice (some ⟨gw, 0, .none⟩) i' wc, .int .i64 (i' : Int), .int .i64 (j15 : Int), .pointer (some ⟨gw, j15, .none⟩), w64 x15, .pointer (some ⟨w.heap.size, 8, .none⟩), (.agg (tc 1 8 7)), w64 (small0 x15), .int .u64 (A14 : Int), .slice (some ⟨gw, 0, .none⟩) i' wc, .int .i64 (i' : Int), .int .i64 (j7 : Int), .pointer (some ⟨gw, j7, .none⟩), w64 x7, .int .u64 (A20 : Int), .agg fc, .slice (some ⟨gw, 0, .none⟩) i' wc, .int .i64 (i' : Int), .int .i64 (j2 : Int), .pointer (some ⟨gw, j2, .none⟩), w64 x2, .pointer (some ⟨w.heap.size, 11, .none⟩), (.agg (tc 19 61 6)), w64 (small1 x2), .int .u64 (A30 : Int), .int .u64 (A30 : Int)]) ?t79 ?r92
    case' t79 => refine ⟨?_, ?_, ?_, ?_, ?_, ?_, ?_, ?_, ?_, ?_, ?_, ?_, ?_, ?_, ?_, ?_, ?_, ?_, ?_, ?_, ?_, ?_, ?_, ?_, ?_, ?_, ?_, ?_, ?_, ?_, ?_, ?_, trivial⟩ <;> intro ev X hT hb hk hf
    ·exact OpOk.m rfl hk.1
    ·exact OpOk.m rfl hk.1
    ·exact OpOk.r (by simp [execOp, fX ev 124 hf.1, hb.1, hs16, go_sem])
    ·exact OpOk.r (by simp [execOp, fX ev 123 hf.1, fX ev 125 hf.2.1, hb.1, k16, hb16, go_sem])
    ·have cW := hc16 X hT
     exact OpOk.sc (fX ev 126 hf.1) cW
    ·exact OpOk.lp (fV ev 2 (.pointer (some ⟨w.heap.size, 0, .none⟩)) hk.1) (part_of (HFcs.out X hT)) hu31 hs31
    ·exact OpOk.m rfl hk.1
    ·exact OpOk.m rfl hk.1
    ·exact OpOk.r (by simp [execOp, fX ev 130 hf.1, hb.1, hs15, go_sem])
    ·exact OpOk.r (by simp [execOp, fX ev 129 hf.1, fX ev 131 hf.2.1, hb.1, k15, hb15, go_sem])
    ·have cW := hc15 X hT
     exact OpOk.sc (fX ev 132 hf.1) cW
    ·exact OpOk.s (fV ev 2 (.pointer (some ⟨w.heap.size, 0, .none⟩)) hk.1) hb
    ·exact OpOk.lp (fX ev 134 hf.1) (fc_small0 (HFcs.out X hT)) hu29 hs29
    ·refine OpOk.enters (f := 65) (args := #[.agg fc, w64 x15, .agg (tc 1 8 7)]) (W' := X) (by simp [execOp, resolve, invoke, fX ev 128 hf.1, fX ev 133 hf.2.1, fX ev 135 hf.2.2.1, hb.1, hb.2.1, go_sem]) ((rsmall0_any x15 X).mono ?_)
     rintro e X2 ⟨rfl, h2⟩
     exact ⟨_, rfl, rfl, h2⟩
    ·exact OpOk.w2 (fX ev 127 hf.1) (fX ev 136 hf.2.1) hb hA14
    ·exact OpOk.m rfl hk.1
    ·exact OpOk.m rfl hk.1
    ·exact OpOk.r (by simp [execOp, fX ev 139 hf.1, hb.1, hs7, go_sem])
    ·exact OpOk.r (by simp [execOp, fX ev 138 hf.1, fX ev 140 hf.2.1, hb.1, k7, hb7, go_sem])
    ·have cW := hc7 X hT
     exact OpOk.sc (fX ev 141 hf.1) cW
    ·exact OpOk.w2 (fX ev 137 hf.1) (fX ev 142 hf.2.1) hb hA20
    ·exact OpOk.lp (fV ev 2 (.pointer (some ⟨w.heap.size, 0, .none⟩)) hk.1) (part_of (HFcs.out X hT)) hu31 hs31
    ·exact OpOk.m rfl hk.1
    ·exact OpOk.m rfl hk.1
    ·exact OpOk.r (by simp [execOp, fX ev 146 hf.1, hb.1, hs2, go_sem])
    ·exact OpOk.r (by simp [execOp, fX ev 145 hf.1, fX ev 147 hf.2.1, hb.1, k2, hb2, go_sem])
    ·have cW := hc2' X hT
     exact OpOk.sc (fX ev 148 hf.1) cW
    ·exact OpOk.s (fV ev 2 (.pointer (some ⟨w.heap.size, 0, .none⟩)) hk.1) hb
    ·exact OpOk.lp (fX ev 150 hf.1) (fc_small1 (HFcs.out X hT)) hu29 hs29b
    ·refine OpOk.enters (f := 65) (args := #[.agg fc, w64 x2, .agg (tc 19 61 6)]) (W' := X) (by simp [execOp, resolve, invoke, fX ev 144 hf.1, fX ev 149 hf.2.1, fX ev 151 hf.2.2.1, hb.1, hb.2.1, go_sem]) ((rsmall1_any x2 X).mono ?_)
     rintro e X2 ⟨rfl, h2⟩
     exact ⟨_, rfl, rfl, h2⟩
    ·exact OpOk.w2 (fX ev 143 hf.1) (fX ev 152 hf.2.1) hb hA30
    ·exact OpOk.assign rfl (fX ev 153 hf.1) ⟨rfl, Stay.refl _⟩
    intro X hT
    iterate 32 rintro _ rfl
    have Hfcw := hide (HFcs.out X hT)
    have HW5' := hide (SP.on.below HW5.out hT)
    have HS6' := hide (HS6.out.trans (Str.below hT))
    clear hT HFcs HCs hc16 hc15 hc7 hc2' hs16 hs15 hs7 hs2 hA14 hA20 hA30
    go_wp2
    refine Rest.done ?_
    go_wp2_with (refine wpList_load_row rfl _ _ rfl w.heap.size rfl _ fc _ _ Hfcw.out hu31 rfl hs31 ?_)
    refine (cut_any A30 hlt30 X).mono ?_
    rintro e w5 ⟨rfl, hb5⟩
    have HW6 := hide (HW5'.out.below hb5)
    have HS7 := hide (HS6'.out.trans (Str.below hb5))
    clear hb5 Hfcw
    generalize A30 % 18446744073709551616 = xx at *
    go_wp2_with (at_builtin; refine wpList_append_nums (F := F3) rfl _ _ _ rfl hu74 _ sl [xx] rfl (by unfold ownN; rw [HSl.out]; exact HW6.out.alloc' _) _ _ rfl (fun h => by cases h) (Lay.new w5 [nv xx] _) (by rw [HSl.out]; simp; omega) ?_; intro v6 w6 ho hs; rw [← HSn.out] at ho; have H6 := hide ho; have HS8 := hide ((HS7.out.alloc _).trans hs); clear ho hs)
    have H6o := H6.out
    obtain ⟨wa6, wc6, rfl, _, _, _, _⟩ := own_value H6o
    have HSl1 : ((sched m (i' + 1)).map (·.toNat)).length = i' + 1 := by rw [List.length_map, sched_len]
    unfold ownN at H6o
    rw [HSl1] at H6o ⊢
    exact ⟨⟨i' + 1, by omega, by simp, H6o, HS8.out⟩, by simp [intOf]; omega⟩
   obtain rfl : i' = 80 := by omega
   have hF31 : F1.on wr := by
    have h9 := hw.right
    rw [← HF3.out] at h9
    exact h9.right.right
   have cR := (fc_part w wr w.heap.size (HFc.out wr hF31)).2
   have hS8 : ((stK PD k).list.map (·.toNat)).length = 8 := by rw [List.length_map]; rfl
   have HS8l := hide hS8
   have HL8 : Hid (∀ X, F3.on X → Lay X ha (((stK PD k).list.map (·.toNat)).map nv) ∧ (ha = Option.none → hc2 = 0)) := hide fun X hX => by
    rw [← HF3.out] at hX
    obtain ⟨g9, c8, e2, _, _⟩ := own_block hX (by rw [hS8]; decide)
    obtain ⟨a9, c9, e1, _, _, hl, _⟩ := own_value hX
    simp only [Value.slice.injEq] at e1 e2
    obtain ⟨rfl, _, rfl⟩ := e1
    exact ⟨hl, fun h => by rw [e2.1] at h; cases h⟩
   have hF4 : ∃ F4, F4 = (ownN (.slice wa 80 wc) ((sched m 80).map (·.toNat)) * F3) := ⟨_, rfl⟩
   obtain ⟨F4, hF4⟩ := hF4
   have HF4 := hide hF4
   have HW7 : Hid (F4.on wr) := hide (by rw [hF4]; unfold ownN; rw [List.length_map, sched_len]; exact hw)
   have HS7 := hide hstr
   clear hF4 hw hstr hS8 Hw0 HS5 HW4
   generalize hsK : (stK PD k).list.map (·.toNat) = sK at *
   have HsK := hide hsK
   clear hsK
   go_wp2_with (at_builtin; refine wpList_append_nums (F := F4) rfl _ _ _ rfl hu74 _ [] sK rfl (by first | exact own_new 50 1 0 [] HW7.out rfl (by decide) | exact SP.on.drew (own_new 50 1 0 [] HW7.out rfl (by decide))) ha hc2 (by have h9 := HS8l.out; rw [h9]; first | done | rfl) (by have h9 := HW7.out; rw [HF4.out] at h9; exact (HL8.out _ h9.right).2) (by first | (have h9 := (own_new 50 1 0 [] HW7.out rfl (by decide)).right; rw [HF4.out] at h9; exact (HL8.out _ h9.right).1) | (have h9 := (SP.on.drew (own_new 50 1 0 [] HW7.out rfl (by decide))).right; rw [HF4.out] at h9; exact (HL8.out _ h9.right).1)) (by rw [HS8l.out]; decide) ?_; intro v6 w6 ho hs; have H6 := hide ho; have HS8 := hide (by first | exact (HS7.out.alloc _).trans hs | exact (Str.drew (HS7.out.alloc _)).trans hs : Str w w6); clear ho hs)
   rw [List.nil_append] at H6
   have HsF : Hid ((own 50 1 v6 8 (stN (runR (stK PD k) (sched m 80) 0)) * F4).on w6) := hide (by have h9 := H6.out; rw [← HsK.out] at h9; exact h9)
   have HSc := hide (sched_len m 80)
   have HSK : Hid (F4 = (own 50 1 (.slice ha 8 hc2) 8 (stN (stK PD k)) * (own 50 1 (.slice wa 80 wc) 80 ((sched m 80).map w64) * (ownN (.slice ka KW.length kc) KW * F1)))) := hide (by
    rw [HF4.out, ← HF3.out, ← HsK.out]
    unfold ownN
    rw [List.length_map, sched_len, List.map_map]
    show (own 50 1 (.slice wa 80 wc) 80 ((sched m 80).map w64) * (own 50 1 (.slice ha 8 hc2) 8 (stN (stK PD k)) * (own 50 1 (.slice ka KW.length kc) KW.length (KW.map nv) * F1))) = _
    ac_rfl)
   clear H6 HS7 HL8 HS8l HF4 HF3 HAll Hmg HsK hF31 cR HW7
   have hu29 := Tryz.underlying83
   have hsb0 : (Tryz.prog.info? 83).map (·.size) = some (tc 28 34 39).size := by kernel_rfl
   have hsb1 : (Tryz.prog.info? 83).map (·.size) = some (tc 14 18 41).size := by kernel_rfl
   go_loopw [17, 18] (fun sv i wr => ∃ j : Nat, j ≤ 80 ∧ i = .int .i64 j ∧ (own 50 1 sv 8 (stN (runR (stK PD k) (sched m 80) j)) * F4).on wr ∧ Str w wr) (fun _ i _ => 80 - (intOf i).toNat)
   case atStart => exact ⟨0, Nat.zero_le _, rfl, HsF.out, HS8.out⟩
   rename Exit → Act → World → Prop => Qr7
   obtain ⟨j, hj, rfl, hw, hstr⟩ := hrel
   clear HsF HS8
   obtain ⟨gs, cs, rfl, _, _⟩ := own_block hw (by decide)
   have h9 := hw.right
   rw [HSK.out] at h9
   obtain ⟨gw, wc2, ew, _, _⟩ := own_block h9.right (by decide)
   obtain ⟨gk, kc2, ek, _, _⟩ := own_block h9.right.right (by decide)
   simp only [Value.slice.injEq] at ew ek
   obtain ⟨rfl, _, rfl⟩ := ew
   obtain ⟨rfl, _, rfl⟩ := ek
   have hfc := fc_part w wr w.heap.size (HFc.out wr h9.right.right.right)
   obtain ⟨_, cR⟩ := hfc
   by_cases hjt : j < 80
   ·have hjI : (j : Int) < 80 := by omega
    have hjK : (j : Int) < (KW.length : Int) := by rw [KW_len]; omega
    have HR1 := hide (show runR (stK PD k) (sched m 80) (j + 1) = rnd (runR (stK PD k) (sched m 80) j) (K j) ((sched m 80).getD j 0) from rfl)
    obtain ⟨hkc, hkl⟩ := KW_get j hjt
    have HQ0 : Hid (∀ Y, Stay wr Y → RQ w.heap.size gs gw gk j (runR (stK PD k) (sched m 80) j) ((sched m 80).getD j 0) (KW.getD j 0) Y) := hide fun Y hY => by
     have h8 := SP.on.below hw hY
     have h7 := h8.right
     rw [HSK.out] at h7
     refine ⟨HFc.out Y h7.right.right.right, fun t x ht => own_cell h8 t x ht, own_cell h7.right j _ ?_, own_cell h7.right.right j _ ?_⟩
     ·rw [List.getElem?_map, List.getD_eq_getElem?_getD, List.getElem?_eq_getElem (by rw [sched_len]; exact hjt)]; rfl
     rw [List.getElem?_map, List.getD_eq_getElem?_getD, List.getElem?_eq_getElem (by rw [KW_len]; omega)]; rfl
    have HWr0 := hide hw
    have HSr0 := hide hstr
    have HKl := hide hkl
    have HKc := hide hkc
    clear hw hstr h9 hkl hkc
    generalize runR (stK PD k) (sched m 80) j = s at *
    generalize (sched m 80).getD j 0 = xw at *
    generalize KW.getD j 0 = kj at *
    obtain ⟨sa, sb, sc, sd, se, sf, sg, sh⟩ := s
    have HX1 := hide (pq_nat ⟨sa, sb, sc, sd, se, sf, sg, sh⟩ (K j) xw)
    have HX2 := hide (dp_nat ⟨sa, sb, sc, sd, se, sf, sg, sh⟩ (K j) xw)
    have HNx := hide (show rnd ⟨sa, sb, sc, sd, se, sf, sg, sh⟩ (K j) xw = ⟨pOf ⟨sa, sb, sc, sd, se, sf, sg, sh⟩ (K j) xw + qOf ⟨sa, sb, sc, sd, se, sf, sg, sh⟩, sa, sb, sc, sd + pOf ⟨sa, sb, sc, sd, se, sf, sg, sh⟩ (K j) xw, se, sf, sg⟩ from rfl)
    rw [← HR1.out] at HNx
    dsimp only at HX1 HX2
    have HCh := hide (show chW ⟨sa, sb, sc, sd, se, sf, sg, sh⟩ = (se &&& sf) ||| (~~~se &&& sg) from rfl)
    have HMo := hide (show maW ⟨sa, sb, sc, sd, se, sf, sg, sh⟩ = ((sa &&& sb) ||| (sa &&& sc)) ||| (sb &&& sc) from rfl)
    generalize chW ⟨sa, sb, sc, sd, se, sf, sg, sh⟩ = ch at *
    generalize maW ⟨sa, sb, sc, sd, se, sf, sg, sh⟩ = mo at *
    generalize pOf ⟨sa, sb, sc, sd, se, sf, sg, sh⟩ (K j) xw + qOf ⟨sa, sb, sc, sd, se, sf, sg, sh⟩ = nx at *
    generalize sd + pOf ⟨sa, sb, sc, sd, se, sf, sg, sh⟩ (K j) xw = ny at *
    have hp1 := wrap_m64 sh.toNat (big1 se).toNat
    have hq1 := wrap_m64 (big0 sa).toNat mo.toNat
    generalize m64 (sh.toNat + (big1 se).toNat) = p1 at *
    generalize m64 ((big0 sa).toNat + mo.toNat) = q1 at *
    have hp2 := wrap_m64 p1 ch.toNat
    generalize m64 (p1 + ch.toNat) = p2 at *
    generalize hkk : (K j).toNat = kk at *
    have hp3 := wrap_m64 p2 kk
    generalize m64 (p2 + kk) = p3 at *
    have hp4 := wrap_m64 p3 xw.toNat
    generalize m64 (p3 + xw.toNat) = p4 at *
    have ht1 := wrap_m64 p4 q1
    have Ht1l := hide (m64_lt (p4 + q1))
    generalize m64 (p4 + q1) = t1 at *
    have ht2 := wrap_m64 sd.toNat p4
    have Ht2l := hide (m64_lt (sd.toNat + p4))
    generalize m64 (sd.toNat + p4) = t2 at *
    replace HX1 := hide HX1.out.symm
    replace HX2 := hide HX2.out.symm
    have HN := hide (notw se)
    have HNc := hide (not_cut se)
    have HNl := hide (show 18446744073709551615 - se.toNat < 18446744073709551616 by omega)
    generalize 18446744073709551615 - se.toNat = nn at *
    clear hkk HR1
    go_wp2_with fail
    refine rV (iv [.slice (some ⟨gs, 0, .none⟩) 8 cs, .pointer (some ⟨gs, 4, .none⟩), w64 se, .slice (some ⟨gs, 0, .none⟩) 8 cs, .pointer (some ⟨gs, 5, .none⟩), w64 sf, w64 (se &&& sf), .agg fc, .slice (some ⟨gs, 0, .none⟩) 8 cs, .pointer (some ⟨gs, 4, .none⟩), w64 se, .int .u64 (nn : Int), w64 (~~~se), .slice (some ⟨gs, 0, .none⟩) 8 cs, .pointer (some ⟨gs, 6, .none⟩), w64 sg, w64 (~~~se &&& sg), w64 ((se &&& sf) ||| (~~~se &&& sg)), w64 ((se &&& sf) ||| (~~~se &&& sg))]) ?t80 ?r93
    case' t80 => refine ⟨?_, ?_, ?_, ?_, ?_, ?_, ?_, ?_, ?_, ?_, ?_, ?_, ?_, ?_, ?_, ?_, ?_, ?_, ?_, trivial⟩ <;> intro ev X hT hb hk hf
    ·exact OpOk.m rfl hk.1
    ·exact OpOk.s (fX ev 169 hf.1) hb
    ·have cW := (HQ0.out X hT).2.1 4 _ rfl
     exact OpOk.sc (fX ev 170 hf.1) cW
    ·exact OpOk.m rfl hk.1
    ·exact OpOk.s (fX ev 172 hf.1) hb
    ·have cW := (HQ0.out X hT).2.1 5 _ rfl
     exact OpOk.sc (fX ev 173 hf.1) cW
    ·exact OpOk.w2 (fX ev 171 hf.1) (fX ev 174 hf.2.1) hb andw
    ·exact OpOk.lp (fV ev 2 (.pointer (some ⟨w.heap.size, 0, .none⟩)) hk.1) (part_of (HQ0.out X hT).1) hu31 hs31
    ·exact OpOk.m rfl hk.1
    ·exact OpOk.s (fX ev 177 hf.1) hb
    ·have cW := (HQ0.out X hT).2.1 4 _ rfl
     exact OpOk.sc (fX ev 178 hf.1) cW
    ·exact OpOk.r (by simp [execOp, fX ev 179 hf.1, hb.1, IntKind.signed, HN.out, -UInt64.toNat_add, -UInt64.toNat_xor, -UInt64.toNat_and, -UInt64.toNat_or, -UInt64.toNat_not, -UInt64.toNat_shiftRight, -UInt64.toNat_shiftLeft, go_sem])
    ·refine OpOk.enters (f := 66) (args := #[.agg fc, .int .u64 (nn : Int)]) (W' := X) (by simp [execOp, resolve, invoke, fX ev 176 hf.1, fX ev 180 hf.2.1, hb.1, hb.2.1, go_sem]) ((cut_any nn HNl.out X).mono ?_)
     rintro e X2 ⟨rfl, h2⟩
     exact ⟨_, rfl, by rw [HNc.out]; exact rfl, h2⟩
    ·exact OpOk.m rfl hk.1
    ·exact OpOk.s (fX ev 182 hf.1) hb
    ·have cW := (HQ0.out X hT).2.1 6 _ rfl
     exact OpOk.sc (fX ev 183 hf.1) cW
    ·exact OpOk.w2 (fX ev 181 hf.1) (fX ev 184 hf.2.1) hb andw
    ·exact OpOk.w2 (fX ev 175 hf.1) (fX ev 185 hf.2.1) hb orw
    ·exact OpOk.assign rfl (fX ev 186 hf.1) ⟨rfl, Stay.refl _⟩
    intro X1 hT
    iterate 19 rintro _ rfl
    have HQ1 := hide fun (Y : World) (hY : Stay X1 Y) => HQ0.out Y (hT.trans hY)
    have HWr1 := hide (SP.on.below HWr0.out hT)
    have HSr1 := hide (HSr0.out.trans (Str.below hT))
    clear hT HQ0 HWr0 HSr0
    rw [← HCh.out]
    clear HCh HN HNc HNl
    go_wp2
    refine Rest.done ?_
    go_wp2_with fail
    refine rV (iv [.slice (some ⟨gs, 0, .none⟩) 8 cs, .pointer (some ⟨gs, 0, .none⟩), w64 sa, .slice (some ⟨gs, 0, .none⟩) 8 cs, .pointer (some ⟨gs, 1, .none⟩), w64 sb, w64 (sa &&& sb), .slice (some ⟨gs, 0, .none⟩) 8 cs, .pointer (some ⟨gs, 0, .none⟩), w64 sa, .slice (some ⟨gs, 0, .none⟩) 8 cs, .pointer (some ⟨gs, 2, .none⟩), w64 sc, w64 (sa &&& sc), w64 ((sa &&& sb) ||| (sa &&& sc)), .slice (some ⟨gs, 0, .none⟩) 8 cs, .pointer (some ⟨gs, 1, .none⟩), w64 sb, .slice (some ⟨gs, 0, .none⟩) 8 cs, .pointer (some ⟨gs, 2, .none⟩), w64 sc, w64 (sb &&& sc), w64 (((sa &&& sb) ||| (sa &&& sc)) ||| (sb &&& sc)), w64 (((sa &&& sb) ||| (sa &&& sc)) ||| (sb &&& sc))]) ?t81 ?r94
    case' t81 => refine ⟨?_, ?_, ?_, ?_, ?_, ?_, ?_, ?_, ?_, ?_, ?_, ?_, ?_, ?_, ?_, ?_, ?_, ?_, ?_, ?_, ?_, ?_, ?_, ?_, trivial⟩ <;> intro ev X hT hb hk hf
    ·exact OpOk.m rfl hk.1
    ·exact OpOk.s (fX ev 187 hf.1) hb
    ·have cW := (HQ1.out X hT).2.1 0 _ rfl
     exact OpOk.sc (fX ev 188 hf.1) cW
    ·exact OpOk.m rfl hk.1
    ·exact OpOk.s (fX ev 190 hf.1) hb
    ·have cW := (HQ1.out X hT).2.1 1 _ rfl
     exact OpOk.sc (fX ev 191 hf.1) cW
    ·exact OpOk.w2 (fX ev 189 hf.1) (fX ev 192 hf.2.1) hb andw
    ·exact OpOk.m rfl hk.1
    ·exact OpOk.s (fX ev 194 hf.1) hb
    ·have cW := (HQ1.out X hT).2.1 0 _ rfl
     exact OpOk.sc (fX ev 195 hf.1) cW
    ·exact OpOk.m rfl hk.1
    ·exact OpOk.s (fX ev 197 hf.1) hb
    ·have cW := (HQ1.out X hT).2.1 2 _ rfl
     exact OpOk.sc (fX ev 198 hf.1) cW
    ·exact OpOk.w2 (fX ev 196 hf.1) (fX ev 199 hf.2.1) hb andw
    ·exact OpOk.w2 (fX ev 193 hf.1) (fX ev 200 hf.2.1) hb orw
    ·exact OpOk.m rfl hk.1
    ·exact OpOk.s (fX ev 202 hf.1) hb
    ·have cW := (HQ1.out X hT).2.1 1 _ rfl
     exact OpOk.sc (fX ev 203 hf.1) cW
    ·exact OpOk.m rfl hk.1
    ·exact OpOk.s (fX ev 205 hf.1) hb
    ·have cW := (HQ1.out X hT).2.1 2 _ rfl
     exact OpOk.sc (fX ev 206 hf.1) cW
    ·exact OpOk.w2 (fX ev 204 hf.1) (fX ev 207 hf.2.1) hb andw
    ·exact OpOk.w2 (fX ev 201 hf.1) (fX ev 208 hf.2.1) hb orw
    ·exact OpOk.assign rfl (fX ev 209 hf.1) ⟨rfl, Stay.refl _⟩
    intro X2 hT
    iterate 24 rintro _ rfl
    have HQ2 := hide fun (Y : World) (hY : Stay X2 Y) => HQ1.out Y (hT.trans hY)
    have HWr2 := hide (SP.on.below HWr1.out hT)
    have HSr2 := hide (HSr1.out.trans (Str.below hT))
    clear hT HQ1 HWr1 HSr1
    rw [← HMo.out]
    clear HMo
    go_wp2
    refine Rest.done ?_
    go_wp2_with fail
    refine rV (iv [.slice (some ⟨gs, 0, .none⟩) 8 cs, .pointer (some ⟨gs, 7, .none⟩), w64 sh, .agg fc, .slice (some ⟨gs, 0, .none⟩) 8 cs, .pointer (some ⟨gs, 4, .none⟩), w64 se, .pointer (some ⟨w.heap.size, 5, .none⟩), .agg (tc 14 18 41), w64 (big1 se), .int .u64 (p1 : Int), w64 ch, .int .u64 (p2 : Int), .agg fc, .slice (some ⟨gk, 0, .none⟩) KW.length kc, .int .i64 (j : Int), .pointer (some ⟨gk, j, .none⟩), nv kj, nv kk, .int .u64 (p3 : Int), .slice (some ⟨gw, 0, .none⟩) 80 wc, .int .i64 (j : Int), .pointer (some ⟨gw, j, .none⟩), w64 xw, .int .u64 (p4 : Int), .int .u64 (p4 : Int)]) ?t82 ?r95
    case' t82 => refine ⟨?_, ?_, ?_, ?_, ?_, ?_, ?_, ?_, ?_, ?_, ?_, ?_, ?_, ?_, ?_, ?_, ?_, ?_, ?_, ?_, ?_, ?_, ?_, ?_, ?_, ?_, trivial⟩ <;> intro ev X hT hb hk hf
    ·exact OpOk.m rfl hk.1
    ·exact OpOk.s (fX ev 210 hf.1) hb
    ·have cW := (HQ2.out X hT).2.1 7 _ rfl
     exact OpOk.sc (fX ev 211 hf.1) cW
    ·exact OpOk.lp (fV ev 2 (.pointer (some ⟨w.heap.size, 0, .none⟩)) hk.1) (part_of (HQ2.out X hT).1) hu31 hs31
    ·exact OpOk.m rfl hk.1
    ·exact OpOk.s (fX ev 214 hf.1) hb
    ·have cW := (HQ2.out X hT).2.1 4 _ rfl
     exact OpOk.sc (fX ev 215 hf.1) cW
    ·exact OpOk.s (fV ev 2 (.pointer (some ⟨w.heap.size, 0, .none⟩)) hk.1) hb
    ·exact OpOk.lp (fX ev 217 hf.1) (fc_big1 (HQ2.out X hT).1) hu29 hsb1
    ·refine OpOk.enters (f := 67) (args := #[.agg fc, w64 se, .agg (tc 14 18 41)]) (W' := X) (by simp [execOp, resolve, invoke, fX ev 213 hf.1, fX ev 216 hf.2.1, fX ev 218 hf.2.2.1, hb.1, hb.2.1, go_sem]) ((rbig1_any se X).mono ?_)
     rintro e X2 ⟨rfl, h2⟩
     exact ⟨_, rfl, rfl, h2⟩
    ·exact OpOk.w2 (fX ev 212 hf.1) (fX ev 219 hf.2.1) hb hp1
    ·exact OpOk.m rfl hk.1
    ·exact OpOk.w2 (fX ev 220 hf.1) (fX ev 221 hf.2.1) hb hp2
    ·exact OpOk.lp (fV ev 2 (.pointer (some ⟨w.heap.size, 0, .none⟩)) hk.1) (part_of (HQ2.out X hT).1) hu31 hs31
    ·exact OpOk.m rfl hk.1
    ·exact OpOk.m rfl hk.1
    ·exact OpOk.r (by simp [execOp, fX ev 224 hf.1, fX ev 225 hf.2.1, hb.1, hjK, go_sem])
    ·have cW := (HQ2.out X hT).2.2.2
     exact OpOk.sc (fX ev 226 hf.1) cW
    ·refine OpOk.enters (f := 62) (args := #[.agg fc, nv kj]) (W' := X) (by simp [execOp, resolve, invoke, fX ev 223 hf.1, fX ev 227 hf.2.1, hb.1, hb.2.1, go_sem]) ((constant_any kj HKl.out X).mono ?_)
     rintro e X2 ⟨rfl, h2⟩
     exact ⟨_, rfl, by rw [HKc.out]; exact rfl, h2⟩
    ·exact OpOk.w2 (fX ev 222 hf.1) (fX ev 228 hf.2.1) hb hp3
    ·exact OpOk.m rfl hk.1
    ·exact OpOk.m rfl hk.1
    ·exact OpOk.r (by simp [execOp, fX ev 230 hf.1, fX ev 231 hf.2.1, hb.1, hjI, go_sem])
    ·have cW := (HQ2.out X hT).2.2.1
     exact OpOk.sc (fX ev 232 hf.1) cW
    ·exact OpOk.w2 (fX ev 229 hf.1) (fX ev 233 hf.2.1) hb hp4
    ·exact OpOk.assign rfl (fX ev 234 hf.1) ⟨rfl, Stay.refl _⟩
    intro X3 hT
    iterate 26 rintro _ rfl
    have HQ3 := hide fun (Y : World) (hY : Stay X3 Y) => HQ2.out Y (hT.trans hY)
    have HWr3 := hide (SP.on.below HWr2.out hT)
    have HSr3 := hide (HSr2.out.trans (Str.below hT))
    clear hT HQ2 HWr2 HSr2
    go_wp2
    refine Rest.done ?_
    go_wp2_with fail
    refine rV (iv [.agg fc, .slice (some ⟨gs, 0, .none⟩) 8 cs, .pointer (some ⟨gs, 0, .none⟩), w64 sa, .pointer (some ⟨w.heap.size, 2, .none⟩), .agg (tc 28 34 39), w64 (big0 sa), w64 mo, .int .u64 (q1 : Int), .int .u64 (q1 : Int)]) ?t83 ?r96
    case' t83 => refine ⟨?_, ?_, ?_, ?_, ?_, ?_, ?_, ?_, ?_, ?_, trivial⟩ <;> intro ev X hT hb hk hf
    ·exact OpOk.lp (fV ev 2 (.pointer (some ⟨w.heap.size, 0, .none⟩)) hk.1) (part_of (HQ3.out X hT).1) hu31 hs31
    ·exact OpOk.m rfl hk.1
    ·exact OpOk.s (fX ev 236 hf.1) hb
    ·have cW := (HQ3.out X hT).2.1 0 _ rfl
     exact OpOk.sc (fX ev 237 hf.1) cW
    ·exact OpOk.s (fV ev 2 (.pointer (some ⟨w.heap.size, 0, .none⟩)) hk.1) hb
    ·exact OpOk.lp (fX ev 239 hf.1) (fc_big0 (HQ3.out X hT).1) hu29 hsb0
    ·refine OpOk.enters (f := 67) (args := #[.agg fc, w64 sa, .agg (tc 28 34 39)]) (W' := X) (by simp [execOp, resolve, invoke, fX ev 235 hf.1, fX ev 238 hf.2.1, fX ev 240 hf.2.2.1, hb.1, hb.2.1, go_sem]) ((rbig0_any sa X).mono ?_)
     rintro e X2 ⟨rfl, h2⟩
     exact ⟨_, rfl, rfl, h2⟩
    ·exact OpOk.m rfl hk.1
    ·exact OpOk.w2 (fX ev 241 hf.1) (fX ev 242 hf.2.1) hb hq1
    ·exact OpOk.assign rfl (fX ev 243 hf.1) ⟨rfl, Stay.refl _⟩
    intro X4 hT
    iterate 10 rintro _ rfl
    have HQ4 := hide fun (Y : World) (hY : Stay X4 Y) => HQ3.out Y (hT.trans hY)
    have HWr4 := hide (SP.on.below HWr3.out hT)
    have HSr4 := hide (HSr3.out.trans (Str.below hT))
    clear hT HQ3 HWr3 HSr3
    go_wp2
    refine Rest.done ?_
    go_wp2_with fail
    refine wp_tail 31 [isV (.agg fc), isV (.int .u64 (p4 : Int)), isV (.int .u64 (q1 : Int)), isV (.int .u64 (t1 : Int)), isV (w64 nx), isV (.slice (some ⟨gs, 0, .none⟩) 8 cs), isV (.pointer (some ⟨gs, 0, .none⟩)), isV (w64 sa), isV (.slice (some ⟨gs, 0, .none⟩) 8 cs), isV (.pointer (some ⟨gs, 1, .none⟩)), isV (w64 sb), isV (.slice (some ⟨gs, 0, .none⟩) 8 cs), isV (.pointer (some ⟨gs, 2, .none⟩)), isV (w64 sc), isV (.agg fc), isV (.slice (some ⟨gs, 0, .none⟩) 8 cs), isV (.pointer (some ⟨gs, 3, .none⟩)), isV (w64 sd), isV (.int .u64 (p4 : Int)), isV (.int .u64 (t2 : Int)), isV (w64 ny), isV (.slice (some ⟨gs, 0, .none⟩) 8 cs), isV (.pointer (some ⟨gs, 4, .none⟩)), isV (w64 se), isV (.slice (some ⟨gs, 0, .none⟩) 8 cs), isV (.pointer (some ⟨gs, 5, .none⟩)), isV (w64 sf), isV (.slice (some ⟨gs, 0, .none⟩) 8 cs), isV (.pointer (some ⟨gs, 6, .none⟩)), isV (w64 sg), fun v X => (own 50 1 v 8 [w64 nx, w64 sa, w64 sb, w64 sc, w64 ny, w64 se, w64 sf, w64 sg] * F4).on X] ?t84 ?r97 (hk := ?keep)
    case keep => exact ⟨Keep.isV _, Keep.isV _, Keep.isV _, Keep.isV _, Keep.isV _, Keep.isV _, Keep.isV _, Keep.isV _, Keep.isV _, Keep.isV _, Keep.isV _, Keep.isV _, Keep.isV _, Keep.isV _, Keep.isV _, Keep.isV _, Keep.isV _, Keep.isV _, Keep.isV _, Keep.isV _, Keep.isV _, Keep.isV _, Keep.isV _, Keep.isV _, Keep.isV _, Keep.isV _, Keep.isV _, Keep.isV _, Keep.isV _, Keep.isV _, fun _ _ _ h k => SP.on.below h k, trivial⟩
    case' t84 => refine ⟨?_, ?_, ?_, ?_, ?_, ?_, ?_, ?_, ?_, ?_, ?_, ?_, ?_, ?_, ?_, ?_, ?_, ?_, ?_, ?_, ?_, ?_, ?_, ?_, ?_, ?_, ?_, ?_, ?_, ?_, ?_, trivial⟩ <;> intro ev X hT hb hk hf
    ·exact OpOk.lp (fV ev 2 (.pointer (some ⟨w.heap.size, 0, .none⟩)) hk.1) (part_of (HQ4.out X hT).1) hu31 hs31
    ·exact OpOk.m rfl hk.1
    ·exact OpOk.m rfl hk.1
    ·exact OpOk.w2 (fX ev 245 hf.1) (fX ev 246 hf.2.1) hb ht1
    ·refine OpOk.enters (f := 66) (args := #[.agg fc, .int .u64 (t1 : Int)]) (W' := X) (by simp [execOp, resolve, invoke, fX ev 244 hf.1, fX ev 247 hf.2.1, hb.1, hb.2.1, go_sem]) ((cut_any t1 Ht1l.out X).mono ?_)
     rintro e X2 ⟨rfl, h2⟩
     exact ⟨_, rfl, by rw [HX1.out]; exact rfl, h2⟩
    ·exact OpOk.m rfl hk.1
    ·exact OpOk.s (fX ev 249 hf.1) hb
    ·have cW := (HQ4.out X hT).2.1 0 _ rfl
     exact OpOk.sc (fX ev 250 hf.1) cW
    ·exact OpOk.m rfl hk.1
    ·exact OpOk.s (fX ev 252 hf.1) hb
    ·have cW := (HQ4.out X hT).2.1 1 _ rfl
     exact OpOk.sc (fX ev 253 hf.1) cW
    ·exact OpOk.m rfl hk.1
    ·exact OpOk.s (fX ev 255 hf.1) hb
    ·have cW := (HQ4.out X hT).2.1 2 _ rfl
     exact OpOk.sc (fX ev 256 hf.1) cW
    ·exact OpOk.lp (fV ev 2 (.pointer (some ⟨w.heap.size, 0, .none⟩)) hk.1) (part_of (HQ4.out X hT).1) hu31 hs31
    ·exact OpOk.m rfl hk.1
    ·exact OpOk.s (fX ev 259 hf.1) hb
    ·have cW := (HQ4.out X hT).2.1 3 _ rfl
     exact OpOk.sc (fX ev 260 hf.1) cW
    ·exact OpOk.m rfl hk.1
    ·exact OpOk.w2 (fX ev 261 hf.1) (fX ev 262 hf.2.1) hb ht2
    ·refine OpOk.enters (f := 66) (args := #[.agg fc, .int .u64 (t2 : Int)]) (W' := X) (by simp [execOp, resolve, invoke, fX ev 258 hf.1, fX ev 263 hf.2.1, hb.1, hb.2.1, go_sem]) ((cut_any t2 Ht2l.out X).mono ?_)
     rintro e X2 ⟨rfl, h2⟩
     exact ⟨_, rfl, by rw [HX2.out]; exact rfl, h2⟩
    ·exact OpOk.m rfl hk.1
    ·exact OpOk.s (fX ev 265 hf.1) hb
    ·have cW := (HQ4.out X hT).2.1 4 _ rfl
     exact OpOk.sc (fX ev 266 hf.1) cW
    ·exact OpOk.m rfl hk.1
    ·exact OpOk.s (fX ev 268 hf.1) hb
    ·have cW := (HQ4.out X hT).2.1 5 _ rfl
     exact OpOk.sc (fX ev 269 hf.1) cW
    ·exact OpOk.m rfl hk.1
    ·exact OpOk.s (fX ev 271 hf.1) hb
    ·have cW := (HQ4.out X hT).2.1 6 _ rfl
     exact OpOk.sc (fX ev 272 hf.1) cW
    ·exact OpOk.run (v := .slice (some ⟨X.heap.size, 0, .none⟩) 8 8) (W' := X.alloc (.cells #[w64 nx, w64 sa, w64 sb, w64 sc, w64 ny, w64 se, w64 sf, w64 sg] 50)) (by simp [execOp, fX ev 248 hf.1, fX ev 251 hf.2.1, fX ev 254 hf.2.2.1, fX ev 257 hf.2.2.2.1, fX ev 264 hf.2.2.2.2.1, fX ev 267 hf.2.2.2.2.2.1, fX ev 270 hf.2.2.2.2.2.2.1, fX ev 273 hf.2.2.2.2.2.2.2.1, hb.1, go_sem]) ⟨own_new 50 1 8 [w64 nx, w64 sa, w64 sb, w64 sc, w64 ny, w64 se, w64 sf, w64 sg] (SP.on.below HWr4.out hT).right rfl (by decide), (Below.refl _ _).alloc (Nat.le_refl _) _⟩
    intro X5 hT
    rintro _ rfl _ rfl _ rfl _ rfl _ rfl _ rfl _ rfl _ rfl _ rfl _ rfl _ rfl _ rfl _ rfl _ rfl _ rfl _ rfl _ rfl _ rfl _ rfl _ rfl _ rfl _ rfl _ rfl _ rfl _ rfl _ rfl _ rfl _ rfl _ rfl _ rfl v31 h31
    have h31' : (own 50 1 v31 8 [w64 nx, w64 sa, w64 sb, w64 sc, w64 ny, w64 se, w64 sf, w64 sg] * F4).on X5 := h31
    obtain ⟨g9, c9, rfl, _, _⟩ := own_block h31' (by decide)
    have H9 := hide h31'
    have HSr5 := hide (HSr4.out.trans (Str.below hT))
    clear hT h31 h31' HQ4 HWr4 HSr4
    clear hp1 hp2 hp3 hp4 hq1 ht1 ht2 HX1 HX2
    go_wp2
    refine Rest.done ?_
    go_wp2_with fail
    exact ⟨⟨j + 1, by omega, by simp, by rw [HNx.out]; exact H9.out, HSr5.out⟩, by simp [intOf]; omega⟩
   obtain rfl : j = 80 := by omega
   obtain ⟨G2, hG2⟩ : ∃ G2, G2 = (own 50 1 (.slice (some ⟨gw, 0, .none⟩) 80 wc) 80 ((sched m 80).map w64) * (ownN (.slice (some ⟨gk, 0, .none⟩) KW.length kc) KW * F1)) := ⟨_, rfl⟩
   have HC2 := hide (show stK PD (k + 1) = addS (stK PD k) (runR (stK PD k) (sched m 80) 80) from HC.out)
   have hwm : (own 50 1 (.slice ha 8 hc2) 8 ((mixL (stK PD k) (runR (stK PD k) (sched m 80) 80) 0).map w64) * (own 50 1 (.slice (some ⟨gs, 0, .none⟩) 8 cs) 8 (stN (runR (stK PD k) (sched m 80) 80)) * G2)).on wr := by
    rw [HSK.out, ← hG2] at hw
    rw [show (mixL (stK PD k) (runR (stK PD k) (sched m 80) 80) 0).map w64 = stN (stK PD k) from rfl]
    refine (SP.le_of_eq ?_).on hw
    ac_rfl
   clear hw HC h9
   have HG2 := hide hG2
   clear hG2
   generalize runR (stK PD k) (sched m 80) 80 = T at *
   generalize stK PD k = S at *
   obtain ⟨gh, hc3, eh, _, _⟩ := own_block hwm (by decide)
   simp only [Value.slice.injEq] at eh
   obtain ⟨rfl, _, rfl⟩ := eh
   have Hwm := hide hwm
   have HS9 := hide hstr
   clear hwm hstr
   go_wp2_with fail
   go_loopw [23] (fun i wr => ∃ j : Nat, j ≤ 8 ∧ i = .int .i64 j ∧ (own 50 1 (.slice (some ⟨gh, 0, .none⟩) 8 hc2) 8 ((mixL S T j).map w64) * (own 50 1 (.slice (some ⟨gs, 0, .none⟩) 8 cs) 8 (stN T) * G2)).on wr ∧ Str w wr) (fun i _ => 8 - (intOf i).toNat)
   case atStart => exact ⟨0, Nat.zero_le _, rfl, Hwm.out, HS9.out⟩
   rename Exit → Act → World → Prop => Qr8
   obtain ⟨j, hj, rfl, hw, hstr⟩ := hrel
   clear Hwm HS9
   by_cases hjt : j < 8
   ·try clear_value Q0; try clear_value Qr1; try clear_value Qr2; try clear_value Qr3; try clear_value Qr4; try clear_value Qr5; try clear_value Qr7
    as_aux_lemma =>
    obtain ⟨x, y, hy, hx, hxy⟩ := mixL_next S T j hjt
    have hj8 : (j : Int) < 8 := by omega
    have HXY := hide hxy
    have HQ0 : Hid (∀ Y, Stay wr Y → Y.heap[w.heap.size]? = some (.cells fc 85 (0, 0)) ∧ Y.cell? ⟨gh, j, .none⟩ = some (w64 x) ∧ Y.cell? ⟨gs, j, .none⟩ = some (w64 y)) := hide fun Y hY => by
     have h8 := SP.on.below hw hY
     have h7 := h8.right.right
     rw [HG2.out] at h7
     refine ⟨HFc.out Y h7.right.right, own_cell h8 j _ ?_, own_cell h8.right j _ ?_⟩
     ·rw [List.getElem?_map, hx]; rfl
     rw [stN_list, List.map_map, List.getElem?_map, hy]; rfl
    have HWr0 := hide hw
    have HSr0 := hide hstr
    have ht := wrap_m64 x.toNat y.toNat
    have Htl := hide (m64_lt (x.toNat + y.toNat))
    have HZ : Hid (m64 (x.toNat + y.toNat) % 18446744073709551616 = (x + y).toNat) := hide (by rw [UInt64.toNat_add]; unfold m64; omega)
    generalize m64 (x.toNat + y.toNat) = t1 at *
    generalize x + y = z at *
    clear hw hstr hx hy hxy
    go_wp2_with fail
    refine wp_tail 13 (iv [.slice (some ⟨gh, 0, .none⟩) 8 hc2, .int .i64 (j : Int), .agg fc, .slice (some ⟨gh, 0, .none⟩) 8 hc2, .int .i64 (j : Int), .pointer (some ⟨gh, j, .none⟩), w64 x, .slice (some ⟨gs, 0, .none⟩) 8 cs, .int .i64 (j : Int), .pointer (some ⟨gs, j, .none⟩), w64 y, .int .u64 (t1 : Int), w64 z]) ?t85 ?r98
    case' t85 => refine ⟨?_, ?_, ?_, ?_, ?_, ?_, ?_, ?_, ?_, ?_, ?_, ?_, ?_, trivial⟩ <;> intro ev X hT hb hk hf
    ·exact OpOk.m rfl hk.1
    ·exact OpOk.m rfl hk.1
    ·exact OpOk.lp (fV ev 2 (.pointer (some ⟨w.heap.size, 0, .none⟩)) hk.1) (part_of (HQ0.out X hT).1) hu31 hs31
    ·exact OpOk.m rfl hk.1
    ·exact OpOk.m rfl hk.1
    ·exact OpOk.r (by simp [execOp, fX ev 282 hf.1, fX ev 283 hf.2.1, hb.1, hj8, go_sem])
    ·have cW := (HQ0.out X hT).2.1
     exact OpOk.sc (fX ev 284 hf.1) cW
    ·exact OpOk.m rfl hk.1
    ·exact OpOk.m rfl hk.1
    ·exact OpOk.r (by simp [execOp, fX ev 286 hf.1, fX ev 287 hf.2.1, hb.1, hj8, go_sem])
    ·have cW := (HQ0.out X hT).2.2
     exact OpOk.sc (fX ev 288 hf.1) cW
    ·exact OpOk.w2 (fX ev 285 hf.1) (fX ev 289 hf.2.1) hb ht
    ·refine OpOk.enters (f := 66) (args := #[.agg fc, .int .u64 (t1 : Int)]) (W' := X) (by simp [execOp, resolve, invoke, fX ev 281 hf.1, fX ev 290 hf.2.1, hb.1, hb.2.1, go_sem]) ((cut_any t1 Htl.out X).mono ?_)
     rintro e X2 ⟨rfl, h2⟩
     exact ⟨_, rfl, by rw [HZ.out]; exact rfl, h2⟩
    intro X hT
    iterate 13 rintro _ rfl
    have hw2 := SP.on.below HWr0.out hT
    have cx := (HQ0.out X hT).2.1
    have fr := own_free hw2 j
    have h9 := own_store hw2 hjt (w64 z)
    rw [← List.map_set, HXY.out] at h9
    have H9 := hide h9
    have HSr1 := hide (HSr0.out.trans (Str.below hT))
    clear hT hw2 h9 HQ0 HWr0 HSr0 HXY HZ Htl ht
    go_wp2
    refine Rest.done ?_
    go_wp2_with fail
    refine ⟨by (repeat apply Exists.intro); refine ⟨⟨j + 1, by omega, ?_, H9.out, HSr1.out.setCell _ _⟩, rfl⟩; simp, ?_⟩
    simp [intOf]; omega
   try clear_value Q0; try clear_value Qr1; try clear_value Qr2; try clear_value Qr3; try clear_value Qr4; try clear_value Qr5; try clear_value Qr7
   as_aux_lemma =>
   obtain rfl : j = 8 := by omega
   have e8 : mixL S T 8 = (addS S T).list := by simp [mixL, St.list]
   rw [e8, ← HC2.out, HG2.out] at hw
   have hfin : (ownN (.slice (some ⟨gh, 0, .none⟩) 8 hc2) ((stK PD (k + 1)).list.map (·.toNat)) * (ownN (.slice (some ⟨gk, 0, .none⟩) KW.length kc) KW * F1)).on wr := by
    have h9 := (SP.le_of_eq (show _ = ((own 50 1 (.slice (some ⟨gs, 0, .none⟩) 8 cs) 8 (stN T) * own 50 1 (.slice (some ⟨gw, 0, .none⟩) 80 wc) 80 ((sched m 80).map w64)) * (own 50 1 (.slice (some ⟨gh, 0, .none⟩) 8 hc2) 8 ((stK PD (k + 1)).list.map w64) * (ownN (.slice (some ⟨gk, 0, .none⟩) KW.length kc) KW * F1))) by ac_rfl)).on hw
    exact h9.right
   have HFin := hide hfin
   have HS10 := hide hstr
   have Hk1 : Hid (128 * (k + 1) ≤ PD.length) := hide (by have := Hm2.out; omega)
   clear hw hstr hfin e8
   go_wp2
   exact ⟨⟨k + 1, Hk1.out, by refine congrArg (Value.int _) ?_; omega, HFin.out, HS10.out⟩, by have := Hk1.out; simp [intOf]; omega⟩
  have hke : k = PD.length / 128 := by have := HmB.out; omega
  have HDg := hide (show digest b = outS (stK PD k) by unfold digest; rw [HP0.out, hke])
  have hw2 : (own 50 1 (.slice ha 8 hc2) 8 (stN (stK PD k)) * (ownN (.slice ka KW.length kc) KW * F1)).on wr := hw
  clear hke hw H4 HS4
  generalize stK PD k = S at *
  obtain ⟨gh, hc3, eh, _, _⟩ := own_block hw2 (by decide)
  simp only [Value.slice.injEq] at eh
  obtain ⟨rfl, _, rfl⟩ := eh
  obtain ⟨F5, hF5⟩ : ∃ F5, F5 = (own 50 1 (.slice (some ⟨gh, 0, .none⟩) 8 hc2) 8 (stN S) * (ownN (.slice ka KW.length kc) KW * F1)) := ⟨_, rfl⟩
  rw [← hF5] at hw2
  have HC5 : Hid (∀ X, F5.on X → ∀ t x, (stN S)[t]? = some x → X.cell? ⟨gh, t, .none⟩ = some x) := hide fun X hX t x ht => by
   rw [hF5] at hX
   exact own_cell hX t x ht
  have Hw0 : Hid ((own 5 1 (.slice Option.none 0 0) (8 * 0) (vbs (outN S 0)) * F5).on wr) := hide (own_nil 5 1 hw2)
  have HS5 := hide hstr
  have HF5 := hide hF5
  clear hF5 hw2 hstr
  go_wp2_with fail
  go_loopw [24, 25] (fun ov i wr => ∃ i' : Nat, i' ≤ 8 ∧ i = .int .i64 i' ∧ (own 5 1 ov (8 * i') (vbs (outN S i')) * F5).on wr ∧ Str w wr) (fun _ i _ => 8 - (intOf i).toNat)
  case atStart => exact ⟨0, Nat.zero_le _, rfl, Hw0.out, HS5.out⟩
  rename Exit → Act → World → Prop => Qr9
  obtain ⟨i', hi, rfl, hw, hstr⟩ := hrel
  clear Hw0 HS5
  obtain ⟨oa, oc, rfl, _, _, _, _⟩ := own_value hw
  by_cases hlt2 : i' < 8
  ·try clear_value Q0; try clear_value Qr1; try clear_value Qr2; try clear_value Qr3; try clear_value Qr4
   as_aux_lemma =>
   have hx : S.list[i']? = some (S.list.getD i' 0) := by rw [List.getD_eq_getElem?_getD, List.getElem?_eq_getElem (by rw [list_len]; exact hlt2)]; rfl
   have HNx := hide (outN_step S i' _ hx)
   have HX : Hid (∀ X, F5.on X → X.cell? ⟨gh, i', .none⟩ = some (w64 (S.list.getD i' 0))) := hide fun X hX => HC5.out X hX i' _ (by rw [stN_list, List.map_map, List.getElem?_map, hx]; rfl)
   have hl8 : (i' : Int) < 8 := by omega
   have HOl := hide (outN_len S i' (by omega))
   have Hw1 : Hid ((own 5 1 (.slice oa (8 * i') oc) (8 * i' + 0) (vbs (outN S i' ++ outW (S.list.getD i' 0) 0)) * F5).on wr) := hide (by unfold outW; rw [List.append_nil]; exact hw)
   have HS6 := hide hstr
   clear hw hstr hx
   generalize S.list.getD i' 0 = x at *
   go_wp2_with fail
   go_loopw [24, 26] (fun ov n wr => ∃ q : Nat, q ≤ 8 ∧ n = .int .i64 ((8 - 1 : Int) - (q : Int)) ∧ (own 5 1 ov (8 * i' + q) (vbs (outN S i' ++ outW x q)) * F5).on wr ∧ Str w wr) (fun _ n _ => (intOf n + 1).toNat)
   case atStart => exact ⟨0, Nat.zero_le _, rfl, Hw1.out, HS6.out⟩
   rename Exit → Act → World → Prop => Qr10
   obtain ⟨q, hq, rfl, hw, hstr⟩ := hrel
   clear Hw1 HS6
   obtain ⟨oa2, oc2, rfl, _, _, _, _⟩ := own_value hw
   by_cases hqt : q < 8
   ·have hYl : (outN S i' ++ outW x q).length = 8 * i' + q := by rw [List.length_append, HOl.out, outW_len]
    have HK := hide (show outN S i' ++ outW x (q + 1) = (outN S i' ++ outW x q) ++ [byteK x.toNat (56 - 8 * q)] by rw [List.append_assoc]; rfl)
    have HYl := hide hYl
    have cx := HX.out _ hw.right
    have hshr := shr_out x.toNat q hqt
    have hq0 : 0 ≤ (8 - 1 : Int) - (q : Int) := by omega
    have hsh0 : 0 ≤ 8 * ((8 - 1 : Int) - (q : Int)) := by omega
    have HW2 := hide hw
    have HS7 := hide hstr
    clear hw hstr hYl
    generalize outN S i' ++ outW x q = Y at *
    go_wp2_with (at_builtin; refine wpList_append_bytes (F := F5) rfl _ _ 35 rfl 5 hu info8 _ Y [byteK x.toNat (56 - 8 * q)] rfl (by rw [HYl.out]; exact HW2.out.alloc' _) _ rfl (isb1r _ _ (by simp) _ _ (by refine congrArg (Value.int _) ?_; unfold byteK; simp [IntKind.wrap_u8]; try rw [show 8 * (8 - 1 - q) = 56 - 8 * q by omega]) _) (by rw [HYl.out]; simp; omega) ?_; intro v3 w3 ho hs; rw [List.length_append, HYl.out, ← HK.out] at ho; have H3 := hide ho; have HS8 := hide ((HS7.out.alloc _).trans hs); obtain ⟨oa4, oc4, rfl, _, _, _, _⟩ := own_value ho; clear ho hs)
    exact ⟨⟨q + 1, by omega, by refine congrArg (Value.int _) ?_; omega, H3.out, HS8.out⟩, by simp [intOf]; omega⟩
   obtain rfl : q = 8 := by omega
   have hw9 : (own 5 1 (.slice oa2 (8 * i' + 8) oc2) (8 * (i' + 1)) (vbs (outN S (i' + 1))) * F5).on wr := by
    rw [HNx.out]
    exact hw
   have HW9 := hide hw9
   have HS7 := hide hstr
   clear hw hstr hw9
   go_wp2_with fail
   exact ⟨⟨i' + 1, by omega, by simp, HW9.out, HS7.out⟩, by simp [intOf]; omega⟩
  obtain rfl : i' = 8 := by omega
  have hfin : (own 5 1 (.slice oa (8 * 8) oc) (digest b).length (vbs (digest b)) * all w).on wr := by
   rw [outN_all, ← HDg.out, HF5.out, ← HF1.out] at hw
   rw [digest_len]
   have h9 := (SP.le_of_eq (show _ = ((own 50 1 (.slice (some ⟨gh, 0, .none⟩) 8 hc2) 8 (stN S) * (ownN (.slice ka KW.length kc) KW * (own 5 1 (.slice aa3 (N0 + 16) ac3) (N0 + 16) (vbs PD) * blk w.heap.size (.cells fc 85 (0, 0))))) * (own 5 1 (.slice oa (8 * 8) oc) (8 * 8) (vbs (digest b)) * all w)) by ac_rfl)).on hw
   exact h9.right
  have HFin := hide hfin
  have HS7 := hide hstr
  clear hw hstr hfin
  go_wp2
  go_ret
  exact ⟨_, rfl, HFin.out, HS7.out⟩
 try clear_value Q0
 as_aux_lemma =>
 have hne : (((b.length + 1 + z : Nat) : Int) % 128 != 112) = true := by simp; omega
 have hzz : z + 1 ≤ padZ b.length := by
  rcases Nat.lt_or_ge z (padZ b.length) with h | h
  ·omega
  have : z = padZ b.length := by omega
  rw [this] at hP
  exact absurd hzP hP
 have HW := hide hw
 have HSt := hide hstr
 have HPP := hide hP
 clear hw hstr hll hP hzP H2 HS2
 go_wp2_with (at_builtin; refine wpList_append_bytes (F := blk w.heap.size (.cells fc 85 (0, 0)) * all w) rfl _ _ 35 rfl 5 hu info8 _ (b ++ [128] ++ List.replicate z 0) [0] rfl (by rw [Hll.out]; exact HW.out.alloc' _) _ rfl (by have h9 := IsBytes.new wr [0] (by decide) 5; exact h9) (by rw [Hll.out]; simp; omega) ?_; intro v3 w3 ho hs; simp only [List.length_append, List.length_replicate, List.length_cons, List.length_nil, Nat.zero_add] at ho; have H3 := hide ho; have HS3 := hide ((HSt.out.alloc _).trans hs); obtain ⟨aa3, ac3, rfl, _, _, _, _⟩ := own_value ho; clear ho hs)
 have HPP2 := HPP.out
 exact ⟨⟨z + 1, hzz, by rw [List.replicate_succ', ← List.append_assoc]; exact H3.out, HS3.out⟩, by simp only [sliceLenH]; omega⟩
end Sha64
end Go.Proofs.YtjdebgbiockafaaGreatDoor
