/- LAID TOGETHER: Ref1L, Ref2L, Ref3L, RefML. -/
import Derived.Test.YtbplbdnofobbiaaDoorGSha
import Derived.IntWalk
set_option linter.unusedVariables false
set_option linter.unusedSimpArgs false
set_option maxRecDepth 100000
set_option maxHeartbeats 8000000
namespace Go.Proofs.YtbplbdnofobbiaaDoor
open Go.ChangeShapes Go.WideShapes Go.ChangeAt Go.RowKit
namespace Sha64
abbrev fc : Array Value := #[.int .i64 64, .int .i64 80, .int .i64 28, .int .i64 34, .int .i64 39, .int .i64 14, .int .i64 18, .int .i64 41, .int .i64 1, .int .i64 8, .int .i64 7, .int .i64 19, .int .i64 61, .int .i64 6]
abbrev tc (a b c : Int) : Array Value := #[.int .i64 a, .int .i64 b, .int .i64 c]
abbrev w64 (x : UInt64) : Value := .int .u64 ((x.toNat : Nat) : Int)
abbrev zf14 : Array Value := #[.int .i64 0, .int .i64 0, .int .i64 0, .int .i64 0, .int .i64 0, .int .i64 0, .int .i64 0, .int .i64 0, .int .i64 0, .int .i64 0, .int .i64 0, .int .i64 0, .int .i64 0, .int .i64 0]
theorem short_any (w : World) : Calls Tryd.prog 85 #[] w fun e w' => e = .returned (.agg fc) ∧ Below w.heap.size w w' := by
 have hu := Tryd.underlying122
 have hz : ∀ w, (zeroValue 122).run Tryd.prog w = .ok (.agg zf14) w := fun w => by kernel_rfl
 have hs : (Tryd.prog.info? 122).map (·.size) = some fc.size := by kernel_rfl
 have hr := heap_alloc_new w (.cells zf14 122)
 go_enter Tryd.func85, Tryd.ntmps85
 go_wp2_with fail
 refine bodyPost_ret (v := .agg fc) (results_cell_row Tryd.results85 _ _ w.heap.size _ fc (0, 0) _ rfl (heap_alloc_new w _) hu rfl hs) rfl ?_
 exact ⟨rfl, (Below.refl _ _).alloc (Nat.le_refl _) _⟩
theorem cut_any (y : Nat) (hy : y < 18446744073709551616) (w : World) : Calls Tryd.prog 100 #[.agg fc, .int .u64 (y : Int)] w fun e w' => e = .returned (.int .u64 ((y % 18446744073709551616 : Nat) : Int)) ∧ Below w.heap.size w w' := by
 go_enter Tryd.func100, Tryd.ntmps100
 go_wp2_with fail
 go_ret
 exact ⟨congrArg (fun v => Ending.returned (Value.int .u64 v)) (by omega), (Below.refl _ _).alloc (Nat.le_refl _) _⟩
theorem fc_part (w : World) (X : World) (g : Nat) (h : X.heap[g]? = some (.cells fc 122 (0, 0))) :
  X.cell? ⟨g, 0, .none⟩ = some (.int .i64 64) ∧ X.cell? ⟨g, 1, .none⟩ = some (.int .i64 80) := by
 refine ⟨?_, ?_⟩ <;> (rw [cell_of_row _ _ _ _ _ _ h]; rfl)
theorem part_of {X : World} {g : Nat} {cs : Array Value} {t : TypeId} {fr : Nat × Nat} (h : X.heap[g]? = some (.cells cs t fr)) : ∀ j v, cs[j]? = some v → X.cell? ⟨g, 0 + j, .none⟩ = some v := fun j v hj => by
 rw [Nat.zero_add, cell_of_row _ _ _ _ _ _ h]
 exact hj
theorem turn_nat (x : UInt64) (n : Nat) (h0 : 0 < n) (hn : n < 64) : (x.toNat / 2 ^ n ||| x.toNat * 2 ^ (64 - n) % 18446744073709551616) % 18446744073709551616 = (rotr x n).toNat := by
 unfold rotr
 have h1 : (UInt64.ofNat (64 - n)).toNat % 64 = 64 - n := by simp; omega
 have h2 : (UInt64.ofNat n).toNat % 64 = n := by simp; omega
 rw [UInt64.toNat_or, UInt64.toNat_shiftLeft, UInt64.toNat_shiftRight, h1, h2, Nat.shiftRight_eq_div_pow, Nat.shiftLeft_eq, Nat.or_comm]
 rw [show (18446744073709551616 : Nat) = 2 ^ 64 from rfl, Nat.or_mod_two_pow]
 congr 1
 ·first
  | (rw [show (18446744073709551616 : Nat) = 2 ^ 64 * 2 ^ (64 - 64) from rfl, Nat.mod_mul_right_mod])
  | simp
 ·exact Nat.mod_eq_of_lt (Nat.lt_of_le_of_lt (Nat.div_le_self _ _) (UInt64.toNat_lt x))
theorem turn_any (x : UInt64) (n : Nat) (hn : n ∈ [1, 8, 14, 18, 19, 28, 34, 39, 41, 61]) (w : World) : Calls Tryd.prog 108 #[.agg fc, w64 x, .int .i64 (n : Int)] w fun e w' => e = .returned (w64 (rotr x n)) ∧ Below w.heap.size w w' := by
 have hu := Tryd.underlying122
 have hs : (Tryd.prog.info? 122).map (·.size) = some fc.size := by kernel_rfl
 have hr := heap_alloc_new w (.cells fc 122)
 have hx := UInt64.toNat_lt x
 have Hr := hide hr
 have hb : 0 < n ∧ n < 64 := by
  simp only [List.mem_cons, List.not_mem_nil, or_false] at hn
  omega
 obtain ⟨h0, hn2⟩ := hb
 have HT := hide (turn_nat x n h0 hn2)
 have HB : Hid (∀ X, Stay (w.alloc (.cells fc 122)) X → X.heap[w.heap.size]? = some (.cells fc 122 (0, 0))) := hide fun X hT => (hT.block _ (by simp)).trans hr
 have hsub : IntKind.i64.wrap ((64 : Int) - (n : Int)) = ((64 - n : Nat) : Int) := by rw [IntWalk.i64_in _ (by omega)]; omega
 obtain ⟨A, hAe⟩ : ∃ A, A = x.toNat / 2 ^ n := ⟨_, rfl⟩
 obtain ⟨B, hBe⟩ : ∃ B, B = x.toNat * 2 ^ (64 - n) % 18446744073709551616 := ⟨_, rfl⟩
 rw [← hAe, ← hBe] at HT
 have hA : (x.toNat : Int) / 2 ^ n = (A : Int) := by rw [hAe]; simp
 have hB : IntKind.u64.wrap ((x.toNat : Int) * 2 ^ (64 - n)) = (B : Int) := by rw [hBe, IntKind.wrap_u64]; simp
 have hA1 : A < 18446744073709551616 := by
  have : A ≤ x.toNat := by rw [hAe]; exact Nat.div_le_self _ _
  omega
 have hB1 : B < 18446744073709551616 := by rw [hBe]; exact Nat.mod_lt _ (by decide)
 have hAB := u64_or_nat A B hA1 hB1
 have hlt : A ||| B < 18446744073709551616 := Nat.or_lt_two_pow (n := 64) hA1 hB1
 have hn64 : (n : Int) ≤ 64 := by omega
 have hsh : ((64 - n : Nat) : Int) ≤ 64 := by omega
 have HFacts := hide (⟨hsub, hA, hB, hAB⟩ : IntKind.i64.wrap ((64 : Int) - (n : Int)) = ((64 - n : Nat) : Int) ∧ (x.toNat : Int) / 2 ^ n = (A : Int) ∧ IntKind.u64.wrap ((x.toNat : Int) * 2 ^ (64 - n)) = (B : Int) ∧ bits .or .u64 (A : Int) (B : Int) = ((A ||| B : Nat) : Int))
 clear hr hn hAe hBe hsub hA hB hAB
 go_enter Tryd.func108, Tryd.ntmps108
 go_wp2_with fail
 obtain ⟨hsub, hA, hB, hAB⟩ := HFacts.out
 refine wp_region_vs [isV (.agg fc), isV (w64 x), isV (.int .i64 (n : Int)), isV (.int .u64 (A : Int)), isV (w64 x), isV (.pointer (some ⟨w.heap.size, 0, .none⟩)), isV (.int .i64 64), isV (.int .i64 (n : Int)), isV (.int .i64 ((64 - n : Nat) : Int)), isV (.int .u64 (B : Int)), isV (.int .u64 ((A ||| B : Nat) : Int)), isV (w64 (rotr x n)), isV (w64 (rotr x n))]
  (by kernel_rfl) (by kernel_rfl) rfl ?keep ?todo ?r71
 case keep => repeat (first | exact trivial | refine ⟨Keep.isV _, ?_⟩)
 case todo =>
  refine ⟨?_, ?_, ?_, ?_, ?_, ?_, ?_, ?_, ?_, ?_, ?_, ?_, ?_, trivial⟩
  ·intro ev X hT hb hk hf
   have e0 : ev (.tmp 3) = .pointer (some ⟨w.heap.size, 0, .none⟩) := hk.1
   exact OpOk.load_part _ _ rfl w.heap.size 0 e0 fc _ (part_of (HB.out X hT)) hu rfl hs ⟨rfl, Stay.refl _⟩
  ·exact fun _ _ _ _ hk hf => OpOk.m rfl hk.1
  ·exact fun _ _ _ _ hk hf => OpOk.m rfl hk.1
  ·intro ev X hT hb hk hf
   have e0 : ev (.tmp 8) = _ := hf.1
   have e1 : ev (.tmp 9) = _ := hf.2.1
   exact OpOk.r (by simp [execOp, e0, e1, hb.1, hn64, hA, go_sem])
  ·exact fun _ _ _ _ hk hf => OpOk.m rfl hk.1
  ·intro ev X hT hb hk hf
   have e0 : ev (.tmp 3) = .pointer (some ⟨w.heap.size, 0, .none⟩) := hk.1
   exact OpOk.r (by simp [execOp, e0, hb.1, go_sem])
  ·intro ev X hT hb hk hf
   have e0 : ev (.tmp 12) = _ := hf.1
   have cW := (fc_part w X w.heap.size (HB.out X hT)).1
   exact OpOk.r (by simp [execOp, e0, cW, go_sem])
  ·exact fun _ _ _ _ hk hf => OpOk.m rfl hk.1
  ·intro ev X hT hb hk hf
   have e0 : ev (.tmp 13) = _ := hf.1
   have e1 : ev (.tmp 14) = _ := hf.2.1
   exact OpOk.r (by simp [execOp, e0, e1, hb.1, hsub, go_sem])
  ·intro ev X hT hb hk hf
   have e0 : ev (.tmp 11) = _ := hf.1
   have e1 : ev (.tmp 15) = _ := hf.2.1
   exact OpOk.r (by simp [execOp, e0, e1, hb.1, hB, hsh, go_sem])
  ·intro ev X hT hb hk hf
   have e0 : ev (.tmp 10) = _ := hf.1
   have e1 : ev (.tmp 16) = _ := hf.2.1
   exact OpOk.r (by simp [execOp, e0, e1, hb.1, hAB, go_sem])
  ·intro ev X hT hb hk hf
   have e0 : ev (.tmp 7) = _ := hf.1
   have e1 : ev (.tmp 17) = _ := hf.2.1
   refine OpOk.enters (f := 100) (args := #[.agg fc, .int .u64 ((A ||| B : Nat) : Int)]) (W' := X) (by simp [execOp, resolve, invoke, e0, e1, hb.1, hb.2.1, go_sem]) ((cut_any (A ||| B) hlt X).mono ?_)
   rintro e X2 ⟨rfl, h2⟩
   exact ⟨_, rfl, by rw [HT.out]; exact rfl, h2⟩
  ·intro ev X hT hb hk hf
   have e0 : ev (.tmp 18) = _ := hf.1
   exact OpOk.assign rfl e0 ⟨rfl, Stay.refl _⟩
 intro X hT
 rintro _ rfl _ rfl _ rfl _ rfl _ rfl _ rfl _ rfl _ rfl _ rfl _ rfl _ rfl _ rfl _ rfl
 have HBB := hide (Below.trans ((Below.refl w.heap.size w).alloc (Nat.le_refl _) (.cells fc 122)) (hT.mono (by simp)))
 clear hT hsub hA hB hAB
 go_wp2
 refine Rest.done ?_
 go_wp2_with fail
 go_ret
 exact ⟨rfl, HBB.out⟩
theorem xorw (x y : UInt64) : bits .xor .u64 ((x.toNat : Nat) : Int) ((y.toNat : Nat) : Int) = (((x ^^^ y).toNat : Nat) : Int) := by
 have h1 := UInt64.toNat_lt x
 have h2 := UInt64.toNat_lt y
 rw [u64_xor_nat _ _ (by omega) (by omega), UInt64.toNat_xor]
theorem rbig0_any (x : UInt64) (w : World) : Calls Tryd.prog 101 #[.agg fc, w64 x, .agg (tc 28 34 39)] w fun e w' => e = .returned (w64 (big0 x)) ∧ Below w.heap.size w w' := by
 have hu := Tryd.underlying122
 have hs : (Tryd.prog.info? 122).map (·.size) = some fc.size := by kernel_rfl
 have hw2 := ((on_all w).alloc (.cells fc 122)).alloc (.cells (tc 28 34 39) 120)
 simp only [World.size_alloc] at hw2
 have HB : Hid (∀ X, Stay ((w.alloc (.cells fc 122)).alloc (.cells (tc 28 34 39) 120)) X → X.heap[w.heap.size]? = some (.cells fc 122 (0, 0))) := hide fun X hT => on_blk_mul (hw2.below hT).right
 have CT0 : Hid (∀ X, Stay ((w.alloc (.cells fc 122)).alloc (.cells (tc 28 34 39) 120)) X → X.cell? ⟨w.heap.size + 1, 0, .none⟩ = some (.int .i64 28)) := hide fun X hT => cell_of_blk (hw2.below hT) 0 rfl
 have CT1 : Hid (∀ X, Stay ((w.alloc (.cells fc 122)).alloc (.cells (tc 28 34 39) 120)) X → X.cell? ⟨w.heap.size + 1, 1, .none⟩ = some (.int .i64 34)) := hide fun X hT => cell_of_blk (hw2.below hT) 1 rfl
 have CT2 : Hid (∀ X, Stay ((w.alloc (.cells fc 122)).alloc (.cells (tc 28 34 39) 120)) X → X.cell? ⟨w.heap.size + 1, 2, .none⟩ = some (.int .i64 39)) := hide fun X hT => cell_of_blk (hw2.below hT) 2 rfl
 have hshr := shr_n x 39 (by decide)
 have HSh := hide hshr
 clear hw2 hshr
 go_enter Tryd.func101, Tryd.ntmps101
 go_wp2_with fail
 have hshr := HSh.out
 refine wp_region_vs [isV (.agg fc), isV (w64 x), isV (.pointer (some ⟨w.heap.size + 1, 0, .none⟩)), isV (.int .i64 28), isV (w64 (rotr x 28)), isV (.agg fc), isV (w64 x), isV (.pointer (some ⟨w.heap.size + 1, 1, .none⟩)), isV (.int .i64 34), isV (w64 (rotr x 34)), isV (w64 ((rotr x 28) ^^^ (rotr x 34))), isV (.agg fc), isV (w64 x), isV (.pointer (some ⟨w.heap.size + 1, 2, .none⟩)), isV (.int .i64 39), isV (w64 (rotr x 39)), isV (w64 (((rotr x 28) ^^^ (rotr x 34)) ^^^ (rotr x 39))), isV (w64 (((rotr x 28) ^^^ (rotr x 34)) ^^^ (rotr x 39)))]
  (by kernel_rfl) (by kernel_rfl) rfl ?keep ?todo ?r72
 case keep => repeat (first | exact trivial | refine ⟨Keep.isV _, ?_⟩)
 case todo =>
  refine ⟨?_, ?_, ?_, ?_, ?_, ?_, ?_, ?_, ?_, ?_, ?_, ?_, ?_, ?_, ?_, ?_, ?_, ?_, trivial⟩
  ·intro ev X hT hb hk hf
   have e0 : ev (.tmp 3) = .pointer (some ⟨w.heap.size, 0, .none⟩) := hk.1
   exact OpOk.load_part _ _ rfl w.heap.size 0 e0 fc _ (part_of (HB.out X hT)) hu rfl hs ⟨rfl, Stay.refl _⟩
  ·exact fun _ _ _ _ hk hf => OpOk.m rfl hk.1
  ·intro ev X hT hb hk hf
   have e0 : ev (.tmp 5) = .pointer (some ⟨w.heap.size + 1, 0, .none⟩) := hk.1
   exact OpOk.r (by simp [execOp, e0, hb.1, go_sem])
  ·intro ev X hT hb hk hf
   have e0 : ev (.tmp 9) = _ := hf.1
   have cW := CT0.out X hT
   exact OpOk.r (by simp [execOp, e0, cW, go_sem])
  ·intro ev X hT hb hk hf
   have e0 : ev (.tmp 7) = _ := hf.1
   have e1 : ev (.tmp 8) = _ := hf.2.1
   have e2 : ev (.tmp 10) = _ := hf.2.2.1
   refine OpOk.enters (f := 108) (args := #[.agg fc, w64 x, .int .i64 ((28 : Nat) : Int)]) (W' := X) (by simp [execOp, resolve, invoke, e0, e1, e2, hb.1, hb.2.1, go_sem]) ((turn_any x 28 (by decide) X).mono ?_)
   rintro e X2 ⟨rfl, h2⟩
   exact ⟨_, rfl, rfl, h2⟩
  ·intro ev X hT hb hk hf
   have e0 : ev (.tmp 3) = .pointer (some ⟨w.heap.size, 0, .none⟩) := hk.1
   exact OpOk.load_part _ _ rfl w.heap.size 0 e0 fc _ (part_of (HB.out X hT)) hu rfl hs ⟨rfl, Stay.refl _⟩
  ·exact fun _ _ _ _ hk hf => OpOk.m rfl hk.1
  ·intro ev X hT hb hk hf
   have e0 : ev (.tmp 5) = .pointer (some ⟨w.heap.size + 1, 0, .none⟩) := hk.1
   exact OpOk.r (by simp [execOp, e0, hb.1, go_sem])
  ·intro ev X hT hb hk hf
   have e0 : ev (.tmp 14) = _ := hf.1
   have cW := CT1.out X hT
   exact OpOk.r (by simp [execOp, e0, cW, go_sem])
  ·intro ev X hT hb hk hf
   have e0 : ev (.tmp 12) = _ := hf.1
   have e1 : ev (.tmp 13) = _ := hf.2.1
   have e2 : ev (.tmp 15) = _ := hf.2.2.1
   refine OpOk.enters (f := 108) (args := #[.agg fc, w64 x, .int .i64 ((34 : Nat) : Int)]) (W' := X) (by simp [execOp, resolve, invoke, e0, e1, e2, hb.1, hb.2.1, go_sem]) ((turn_any x 34 (by decide) X).mono ?_)
   rintro e X2 ⟨rfl, h2⟩
   exact ⟨_, rfl, rfl, h2⟩
  ·intro ev X hT hb hk hf
   have e0 : ev (.tmp 11) = _ := hf.1
   have e1 : ev (.tmp 16) = _ := hf.2.1
   exact OpOk.r (by simp [execOp, e0, e1, hb.1, xorw, -UInt64.toNat_add, -UInt64.toNat_xor, -UInt64.toNat_and, -UInt64.toNat_or, -UInt64.toNat_not, -UInt64.toNat_shiftRight, -UInt64.toNat_shiftLeft, go_sem])
  ·intro ev X hT hb hk hf
   have e0 : ev (.tmp 3) = .pointer (some ⟨w.heap.size, 0, .none⟩) := hk.1
   exact OpOk.load_part _ _ rfl w.heap.size 0 e0 fc _ (part_of (HB.out X hT)) hu rfl hs ⟨rfl, Stay.refl _⟩
  ·exact fun _ _ _ _ hk hf => OpOk.m rfl hk.1
  ·intro ev X hT hb hk hf
   have e0 : ev (.tmp 5) = .pointer (some ⟨w.heap.size + 1, 0, .none⟩) := hk.1
   exact OpOk.r (by simp [execOp, e0, hb.1, go_sem])
  ·intro ev X hT hb hk hf
   have e0 : ev (.tmp 20) = _ := hf.1
   have cW := CT2.out X hT
   exact OpOk.r (by simp [execOp, e0, cW, go_sem])
  ·intro ev X hT hb hk hf
   have e0 : ev (.tmp 18) = _ := hf.1
   have e1 : ev (.tmp 19) = _ := hf.2.1
   have e2 : ev (.tmp 21) = _ := hf.2.2.1
   refine OpOk.enters (f := 108) (args := #[.agg fc, w64 x, .int .i64 ((39 : Nat) : Int)]) (W' := X) (by simp [execOp, resolve, invoke, e0, e1, e2, hb.1, hb.2.1, go_sem]) ((turn_any x 39 (by decide) X).mono ?_)
   rintro e X2 ⟨rfl, h2⟩
   exact ⟨_, rfl, rfl, h2⟩
  ·intro ev X hT hb hk hf
   have e0 : ev (.tmp 17) = _ := hf.1
   have e1 : ev (.tmp 22) = _ := hf.2.1
   exact OpOk.r (by simp [execOp, e0, e1, hb.1, xorw, -UInt64.toNat_add, -UInt64.toNat_xor, -UInt64.toNat_and, -UInt64.toNat_or, -UInt64.toNat_not, -UInt64.toNat_shiftRight, -UInt64.toNat_shiftLeft, go_sem])
  ·intro ev X hT hb hk hf
   have e0 : ev (.tmp 23) = _ := hf.1
   exact OpOk.assign rfl e0 ⟨rfl, Stay.refl _⟩
 intro X hT
 rintro _ rfl _ rfl _ rfl _ rfl _ rfl _ rfl _ rfl _ rfl _ rfl _ rfl _ rfl _ rfl _ rfl _ rfl _ rfl _ rfl _ rfl _ rfl
 have HBB := hide (Below.trans (((Below.refl w.heap.size w).alloc (Nat.le_refl _) (.cells fc 122)).alloc (by simp) (.cells (tc 28 34 39) 120)) (hT.mono (by simp; omega)))
 clear hT hshr
 go_wp2
 refine Rest.done ?_
 go_wp2_with fail
 go_ret
 exact ⟨rfl, HBB.out⟩
theorem rbig1_any (x : UInt64) (w : World) : Calls Tryd.prog 101 #[.agg fc, w64 x, .agg (tc 14 18 41)] w fun e w' => e = .returned (w64 (big1 x)) ∧ Below w.heap.size w w' := by
 have hu := Tryd.underlying122
 have hs : (Tryd.prog.info? 122).map (·.size) = some fc.size := by kernel_rfl
 have hw2 := ((on_all w).alloc (.cells fc 122)).alloc (.cells (tc 14 18 41) 120)
 simp only [World.size_alloc] at hw2
 have HB : Hid (∀ X, Stay ((w.alloc (.cells fc 122)).alloc (.cells (tc 14 18 41) 120)) X → X.heap[w.heap.size]? = some (.cells fc 122 (0, 0))) := hide fun X hT => on_blk_mul (hw2.below hT).right
 have CT0 : Hid (∀ X, Stay ((w.alloc (.cells fc 122)).alloc (.cells (tc 14 18 41) 120)) X → X.cell? ⟨w.heap.size + 1, 0, .none⟩ = some (.int .i64 14)) := hide fun X hT => cell_of_blk (hw2.below hT) 0 rfl
 have CT1 : Hid (∀ X, Stay ((w.alloc (.cells fc 122)).alloc (.cells (tc 14 18 41) 120)) X → X.cell? ⟨w.heap.size + 1, 1, .none⟩ = some (.int .i64 18)) := hide fun X hT => cell_of_blk (hw2.below hT) 1 rfl
 have CT2 : Hid (∀ X, Stay ((w.alloc (.cells fc 122)).alloc (.cells (tc 14 18 41) 120)) X → X.cell? ⟨w.heap.size + 1, 2, .none⟩ = some (.int .i64 41)) := hide fun X hT => cell_of_blk (hw2.below hT) 2 rfl
 have hshr := shr_n x 41 (by decide)
 have HSh := hide hshr
 clear hw2 hshr
 go_enter Tryd.func101, Tryd.ntmps101
 go_wp2_with fail
 have hshr := HSh.out
 refine wp_region_vs [isV (.agg fc), isV (w64 x), isV (.pointer (some ⟨w.heap.size + 1, 0, .none⟩)), isV (.int .i64 14), isV (w64 (rotr x 14)), isV (.agg fc), isV (w64 x), isV (.pointer (some ⟨w.heap.size + 1, 1, .none⟩)), isV (.int .i64 18), isV (w64 (rotr x 18)), isV (w64 ((rotr x 14) ^^^ (rotr x 18))), isV (.agg fc), isV (w64 x), isV (.pointer (some ⟨w.heap.size + 1, 2, .none⟩)), isV (.int .i64 41), isV (w64 (rotr x 41)), isV (w64 (((rotr x 14) ^^^ (rotr x 18)) ^^^ (rotr x 41))), isV (w64 (((rotr x 14) ^^^ (rotr x 18)) ^^^ (rotr x 41)))]
  (by kernel_rfl) (by kernel_rfl) rfl ?keep ?todo ?r73
 case keep => repeat (first | exact trivial | refine ⟨Keep.isV _, ?_⟩)
 case todo =>
  refine ⟨?_, ?_, ?_, ?_, ?_, ?_, ?_, ?_, ?_, ?_, ?_, ?_, ?_, ?_, ?_, ?_, ?_, ?_, trivial⟩
  ·intro ev X hT hb hk hf
   have e0 : ev (.tmp 3) = .pointer (some ⟨w.heap.size, 0, .none⟩) := hk.1
   exact OpOk.load_part _ _ rfl w.heap.size 0 e0 fc _ (part_of (HB.out X hT)) hu rfl hs ⟨rfl, Stay.refl _⟩
  ·exact fun _ _ _ _ hk hf => OpOk.m rfl hk.1
  ·intro ev X hT hb hk hf
   have e0 : ev (.tmp 5) = .pointer (some ⟨w.heap.size + 1, 0, .none⟩) := hk.1
   exact OpOk.r (by simp [execOp, e0, hb.1, go_sem])
  ·intro ev X hT hb hk hf
   have e0 : ev (.tmp 9) = _ := hf.1
   have cW := CT0.out X hT
   exact OpOk.r (by simp [execOp, e0, cW, go_sem])
  ·intro ev X hT hb hk hf
   have e0 : ev (.tmp 7) = _ := hf.1
   have e1 : ev (.tmp 8) = _ := hf.2.1
   have e2 : ev (.tmp 10) = _ := hf.2.2.1
   refine OpOk.enters (f := 108) (args := #[.agg fc, w64 x, .int .i64 ((14 : Nat) : Int)]) (W' := X) (by simp [execOp, resolve, invoke, e0, e1, e2, hb.1, hb.2.1, go_sem]) ((turn_any x 14 (by decide) X).mono ?_)
   rintro e X2 ⟨rfl, h2⟩
   exact ⟨_, rfl, rfl, h2⟩
  ·intro ev X hT hb hk hf
   have e0 : ev (.tmp 3) = .pointer (some ⟨w.heap.size, 0, .none⟩) := hk.1
   exact OpOk.load_part _ _ rfl w.heap.size 0 e0 fc _ (part_of (HB.out X hT)) hu rfl hs ⟨rfl, Stay.refl _⟩
  ·exact fun _ _ _ _ hk hf => OpOk.m rfl hk.1
  ·intro ev X hT hb hk hf
   have e0 : ev (.tmp 5) = .pointer (some ⟨w.heap.size + 1, 0, .none⟩) := hk.1
   exact OpOk.r (by simp [execOp, e0, hb.1, go_sem])
  ·intro ev X hT hb hk hf
   have e0 : ev (.tmp 14) = _ := hf.1
   have cW := CT1.out X hT
   exact OpOk.r (by simp [execOp, e0, cW, go_sem])
  ·intro ev X hT hb hk hf
   have e0 : ev (.tmp 12) = _ := hf.1
   have e1 : ev (.tmp 13) = _ := hf.2.1
   have e2 : ev (.tmp 15) = _ := hf.2.2.1
   refine OpOk.enters (f := 108) (args := #[.agg fc, w64 x, .int .i64 ((18 : Nat) : Int)]) (W' := X) (by simp [execOp, resolve, invoke, e0, e1, e2, hb.1, hb.2.1, go_sem]) ((turn_any x 18 (by decide) X).mono ?_)
   rintro e X2 ⟨rfl, h2⟩
   exact ⟨_, rfl, rfl, h2⟩
  ·intro ev X hT hb hk hf
   have e0 : ev (.tmp 11) = _ := hf.1
   have e1 : ev (.tmp 16) = _ := hf.2.1
   exact OpOk.r (by simp [execOp, e0, e1, hb.1, xorw, -UInt64.toNat_add, -UInt64.toNat_xor, -UInt64.toNat_and, -UInt64.toNat_or, -UInt64.toNat_not, -UInt64.toNat_shiftRight, -UInt64.toNat_shiftLeft, go_sem])
  ·intro ev X hT hb hk hf
   have e0 : ev (.tmp 3) = .pointer (some ⟨w.heap.size, 0, .none⟩) := hk.1
   exact OpOk.load_part _ _ rfl w.heap.size 0 e0 fc _ (part_of (HB.out X hT)) hu rfl hs ⟨rfl, Stay.refl _⟩
  ·exact fun _ _ _ _ hk hf => OpOk.m rfl hk.1
  ·intro ev X hT hb hk hf
   have e0 : ev (.tmp 5) = .pointer (some ⟨w.heap.size + 1, 0, .none⟩) := hk.1
   exact OpOk.r (by simp [execOp, e0, hb.1, go_sem])
  ·intro ev X hT hb hk hf
   have e0 : ev (.tmp 20) = _ := hf.1
   have cW := CT2.out X hT
   exact OpOk.r (by simp [execOp, e0, cW, go_sem])
  ·intro ev X hT hb hk hf
   have e0 : ev (.tmp 18) = _ := hf.1
   have e1 : ev (.tmp 19) = _ := hf.2.1
   have e2 : ev (.tmp 21) = _ := hf.2.2.1
   refine OpOk.enters (f := 108) (args := #[.agg fc, w64 x, .int .i64 ((41 : Nat) : Int)]) (W' := X) (by simp [execOp, resolve, invoke, e0, e1, e2, hb.1, hb.2.1, go_sem]) ((turn_any x 41 (by decide) X).mono ?_)
   rintro e X2 ⟨rfl, h2⟩
   exact ⟨_, rfl, rfl, h2⟩
  ·intro ev X hT hb hk hf
   have e0 : ev (.tmp 17) = _ := hf.1
   have e1 : ev (.tmp 22) = _ := hf.2.1
   exact OpOk.r (by simp [execOp, e0, e1, hb.1, xorw, -UInt64.toNat_add, -UInt64.toNat_xor, -UInt64.toNat_and, -UInt64.toNat_or, -UInt64.toNat_not, -UInt64.toNat_shiftRight, -UInt64.toNat_shiftLeft, go_sem])
  ·intro ev X hT hb hk hf
   have e0 : ev (.tmp 23) = _ := hf.1
   exact OpOk.assign rfl e0 ⟨rfl, Stay.refl _⟩
 intro X hT
 rintro _ rfl _ rfl _ rfl _ rfl _ rfl _ rfl _ rfl _ rfl _ rfl _ rfl _ rfl _ rfl _ rfl _ rfl _ rfl _ rfl _ rfl _ rfl
 have HBB := hide (Below.trans (((Below.refl w.heap.size w).alloc (Nat.le_refl _) (.cells fc 122)).alloc (by simp) (.cells (tc 14 18 41) 120)) (hT.mono (by simp; omega)))
 clear hT hshr
 go_wp2
 refine Rest.done ?_
 go_wp2_with fail
 go_ret
 exact ⟨rfl, HBB.out⟩
theorem rsmall0_any (x : UInt64) (w : World) : Calls Tryd.prog 99 #[.agg fc, w64 x, .agg (tc 1 8 7)] w fun e w' => e = .returned (w64 (small0 x)) ∧ Below w.heap.size w w' := by
 have hu := Tryd.underlying122
 have hs : (Tryd.prog.info? 122).map (·.size) = some fc.size := by kernel_rfl
 have hw2 := ((on_all w).alloc (.cells fc 122)).alloc (.cells (tc 1 8 7) 120)
 simp only [World.size_alloc] at hw2
 have HB : Hid (∀ X, Stay ((w.alloc (.cells fc 122)).alloc (.cells (tc 1 8 7) 120)) X → X.heap[w.heap.size]? = some (.cells fc 122 (0, 0))) := hide fun X hT => on_blk_mul (hw2.below hT).right
 have CT0 : Hid (∀ X, Stay ((w.alloc (.cells fc 122)).alloc (.cells (tc 1 8 7) 120)) X → X.cell? ⟨w.heap.size + 1, 0, .none⟩ = some (.int .i64 1)) := hide fun X hT => cell_of_blk (hw2.below hT) 0 rfl
 have CT1 : Hid (∀ X, Stay ((w.alloc (.cells fc 122)).alloc (.cells (tc 1 8 7) 120)) X → X.cell? ⟨w.heap.size + 1, 1, .none⟩ = some (.int .i64 8)) := hide fun X hT => cell_of_blk (hw2.below hT) 1 rfl
 have CT2 : Hid (∀ X, Stay ((w.alloc (.cells fc 122)).alloc (.cells (tc 1 8 7) 120)) X → X.cell? ⟨w.heap.size + 1, 2, .none⟩ = some (.int .i64 7)) := hide fun X hT => cell_of_blk (hw2.below hT) 2 rfl
 have hshr : ((x.toNat : Nat) : Int) / (128 : Int) = (((x >>> 7).toNat : Nat) : Int) := shr_n x 7 (by decide)
 have HSh := hide hshr
 clear hw2 hshr
 go_enter Tryd.func99, Tryd.ntmps99
 go_wp2_with fail
 have hshr := HSh.out
 refine wp_region_vs [isV (.agg fc), isV (w64 x), isV (.pointer (some ⟨w.heap.size + 1, 0, .none⟩)), isV (.int .i64 1), isV (w64 (rotr x 1)), isV (.agg fc), isV (w64 x), isV (.pointer (some ⟨w.heap.size + 1, 1, .none⟩)), isV (.int .i64 8), isV (w64 (rotr x 8)), isV (w64 ((rotr x 1) ^^^ (rotr x 8))), isV (w64 x), isV (.pointer (some ⟨w.heap.size + 1, 2, .none⟩)), isV (.int .i64 7), isV (w64 (x >>> 7)), isV (w64 (((rotr x 1) ^^^ (rotr x 8)) ^^^ (x >>> 7))), isV (w64 (((rotr x 1) ^^^ (rotr x 8)) ^^^ (x >>> 7)))]
  (by kernel_rfl) (by kernel_rfl) rfl ?keep ?todo ?r74
 case keep => repeat (first | exact trivial | refine ⟨Keep.isV _, ?_⟩)
 case todo =>
  refine ⟨?_, ?_, ?_, ?_, ?_, ?_, ?_, ?_, ?_, ?_, ?_, ?_, ?_, ?_, ?_, ?_, ?_, trivial⟩
  ·intro ev X hT hb hk hf
   have e0 : ev (.tmp 3) = .pointer (some ⟨w.heap.size, 0, .none⟩) := hk.1
   exact OpOk.load_part _ _ rfl w.heap.size 0 e0 fc _ (part_of (HB.out X hT)) hu rfl hs ⟨rfl, Stay.refl _⟩
  ·exact fun _ _ _ _ hk hf => OpOk.m rfl hk.1
  ·intro ev X hT hb hk hf
   have e0 : ev (.tmp 5) = .pointer (some ⟨w.heap.size + 1, 0, .none⟩) := hk.1
   exact OpOk.r (by simp [execOp, e0, hb.1, go_sem])
  ·intro ev X hT hb hk hf
   have e0 : ev (.tmp 9) = _ := hf.1
   have cW := CT0.out X hT
   exact OpOk.r (by simp [execOp, e0, cW, go_sem])
  ·intro ev X hT hb hk hf
   have e0 : ev (.tmp 7) = _ := hf.1
   have e1 : ev (.tmp 8) = _ := hf.2.1
   have e2 : ev (.tmp 10) = _ := hf.2.2.1
   refine OpOk.enters (f := 108) (args := #[.agg fc, w64 x, .int .i64 ((1 : Nat) : Int)]) (W' := X) (by simp [execOp, resolve, invoke, e0, e1, e2, hb.1, hb.2.1, go_sem]) ((turn_any x 1 (by decide) X).mono ?_)
   rintro e X2 ⟨rfl, h2⟩
   exact ⟨_, rfl, rfl, h2⟩
  ·intro ev X hT hb hk hf
   have e0 : ev (.tmp 3) = .pointer (some ⟨w.heap.size, 0, .none⟩) := hk.1
   exact OpOk.load_part _ _ rfl w.heap.size 0 e0 fc _ (part_of (HB.out X hT)) hu rfl hs ⟨rfl, Stay.refl _⟩
  ·exact fun _ _ _ _ hk hf => OpOk.m rfl hk.1
  ·intro ev X hT hb hk hf
   have e0 : ev (.tmp 5) = .pointer (some ⟨w.heap.size + 1, 0, .none⟩) := hk.1
   exact OpOk.r (by simp [execOp, e0, hb.1, go_sem])
  ·intro ev X hT hb hk hf
   have e0 : ev (.tmp 14) = _ := hf.1
   have cW := CT1.out X hT
   exact OpOk.r (by simp [execOp, e0, cW, go_sem])
  ·intro ev X hT hb hk hf
   have e0 : ev (.tmp 12) = _ := hf.1
   have e1 : ev (.tmp 13) = _ := hf.2.1
   have e2 : ev (.tmp 15) = _ := hf.2.2.1
   refine OpOk.enters (f := 108) (args := #[.agg fc, w64 x, .int .i64 ((8 : Nat) : Int)]) (W' := X) (by simp [execOp, resolve, invoke, e0, e1, e2, hb.1, hb.2.1, go_sem]) ((turn_any x 8 (by decide) X).mono ?_)
   rintro e X2 ⟨rfl, h2⟩
   exact ⟨_, rfl, rfl, h2⟩
  ·intro ev X hT hb hk hf
   have e0 : ev (.tmp 11) = _ := hf.1
   have e1 : ev (.tmp 16) = _ := hf.2.1
   exact OpOk.r (by simp [execOp, e0, e1, hb.1, xorw, -UInt64.toNat_add, -UInt64.toNat_xor, -UInt64.toNat_and, -UInt64.toNat_or, -UInt64.toNat_not, -UInt64.toNat_shiftRight, -UInt64.toNat_shiftLeft, go_sem])
  ·exact fun _ _ _ _ hk hf => OpOk.m rfl hk.1
  ·intro ev X hT hb hk hf
   have e0 : ev (.tmp 5) = .pointer (some ⟨w.heap.size + 1, 0, .none⟩) := hk.1
   exact OpOk.r (by simp [execOp, e0, hb.1, go_sem])
  ·intro ev X hT hb hk hf
   have e0 : ev (.tmp 19) = _ := hf.1
   have cW := CT2.out X hT
   exact OpOk.r (by simp [execOp, e0, cW, go_sem])
  ·intro ev X hT hb hk hf
   have e0 : ev (.tmp 18) = _ := hf.1
   have e1 : ev (.tmp 20) = _ := hf.2.1
   exact OpOk.r (by simp [execOp, e0, e1, hb.1, hshr, -UInt64.toNat_add, -UInt64.toNat_xor, -UInt64.toNat_and, -UInt64.toNat_or, -UInt64.toNat_not, -UInt64.toNat_shiftRight, -UInt64.toNat_shiftLeft, go_sem])
  ·intro ev X hT hb hk hf
   have e0 : ev (.tmp 17) = _ := hf.1
   have e1 : ev (.tmp 21) = _ := hf.2.1
   exact OpOk.r (by simp [execOp, e0, e1, hb.1, xorw, -UInt64.toNat_add, -UInt64.toNat_xor, -UInt64.toNat_and, -UInt64.toNat_or, -UInt64.toNat_not, -UInt64.toNat_shiftRight, -UInt64.toNat_shiftLeft, go_sem])
  ·intro ev X hT hb hk hf
   have e0 : ev (.tmp 22) = _ := hf.1
   exact OpOk.assign rfl e0 ⟨rfl, Stay.refl _⟩
 intro X hT
 rintro _ rfl _ rfl _ rfl _ rfl _ rfl _ rfl _ rfl _ rfl _ rfl _ rfl _ rfl _ rfl _ rfl _ rfl _ rfl _ rfl _ rfl
 have HBB := hide (Below.trans (((Below.refl w.heap.size w).alloc (Nat.le_refl _) (.cells fc 122)).alloc (by simp) (.cells (tc 1 8 7) 120)) (hT.mono (by simp; omega)))
 clear hT hshr
 go_wp2
 refine Rest.done ?_
 go_wp2_with fail
 go_ret
 exact ⟨rfl, HBB.out⟩
theorem rsmall1_any (x : UInt64) (w : World) : Calls Tryd.prog 99 #[.agg fc, w64 x, .agg (tc 19 61 6)] w fun e w' => e = .returned (w64 (small1 x)) ∧ Below w.heap.size w w' := by
 have hu := Tryd.underlying122
 have hs : (Tryd.prog.info? 122).map (·.size) = some fc.size := by kernel_rfl
 have hw2 := ((on_all w).alloc (.cells fc 122)).alloc (.cells (tc 19 61 6) 120)
 simp only [World.size_alloc] at hw2
 have HB : Hid (∀ X, Stay ((w.alloc (.cells fc 122)).alloc (.cells (tc 19 61 6) 120)) X → X.heap[w.heap.size]? = some (.cells fc 122 (0, 0))) := hide fun X hT => on_blk_mul (hw2.below hT).right
 have CT0 : Hid (∀ X, Stay ((w.alloc (.cells fc 122)).alloc (.cells (tc 19 61 6) 120)) X → X.cell? ⟨w.heap.size + 1, 0, .none⟩ = some (.int .i64 19)) := hide fun X hT => cell_of_blk (hw2.below hT) 0 rfl
 have CT1 : Hid (∀ X, Stay ((w.alloc (.cells fc 122)).alloc (.cells (tc 19 61 6) 120)) X → X.cell? ⟨w.heap.size + 1, 1, .none⟩ = some (.int .i64 61)) := hide fun X hT => cell_of_blk (hw2.below hT) 1 rfl
 have CT2 : Hid (∀ X, Stay ((w.alloc (.cells fc 122)).alloc (.cells (tc 19 61 6) 120)) X → X.cell? ⟨w.heap.size + 1, 2, .none⟩ = some (.int .i64 6)) := hide fun X hT => cell_of_blk (hw2.below hT) 2 rfl
 have hshr : ((x.toNat : Nat) : Int) / (64 : Int) = (((x >>> 6).toNat : Nat) : Int) := shr_n x 6 (by decide)
 have HSh := hide hshr
 clear hw2 hshr
 go_enter Tryd.func99, Tryd.ntmps99
 go_wp2_with fail
 have hshr := HSh.out
 refine wp_region_vs [isV (.agg fc), isV (w64 x), isV (.pointer (some ⟨w.heap.size + 1, 0, .none⟩)), isV (.int .i64 19), isV (w64 (rotr x 19)), isV (.agg fc), isV (w64 x), isV (.pointer (some ⟨w.heap.size + 1, 1, .none⟩)), isV (.int .i64 61), isV (w64 (rotr x 61)), isV (w64 ((rotr x 19) ^^^ (rotr x 61))), isV (w64 x), isV (.pointer (some ⟨w.heap.size + 1, 2, .none⟩)), isV (.int .i64 6), isV (w64 (x >>> 6)), isV (w64 (((rotr x 19) ^^^ (rotr x 61)) ^^^ (x >>> 6))), isV (w64 (((rotr x 19) ^^^ (rotr x 61)) ^^^ (x >>> 6)))]
  (by kernel_rfl) (by kernel_rfl) rfl ?keep ?todo ?r75
 case keep => repeat (first | exact trivial | refine ⟨Keep.isV _, ?_⟩)
 case todo =>
  refine ⟨?_, ?_, ?_, ?_, ?_, ?_, ?_, ?_, ?_, ?_, ?_, ?_, ?_, ?_, ?_, ?_, ?_, trivial⟩
  ·intro ev X hT hb hk hf
   have e0 : ev (.tmp 3) = .pointer (some ⟨w.heap.size, 0, .none⟩) := hk.1
   exact OpOk.load_part _ _ rfl w.heap.size 0 e0 fc _ (part_of (HB.out X hT)) hu rfl hs ⟨rfl, Stay.refl _⟩
  ·exact fun _ _ _ _ hk hf => OpOk.m rfl hk.1
  ·intro ev X hT hb hk hf
   have e0 : ev (.tmp 5) = .pointer (some ⟨w.heap.size + 1, 0, .none⟩) := hk.1
   exact OpOk.r (by simp [execOp, e0, hb.1, go_sem])
  ·intro ev X hT hb hk hf
   have e0 : ev (.tmp 9) = _ := hf.1
   have cW := CT0.out X hT
   exact OpOk.r (by simp [execOp, e0, cW, go_sem])
  ·intro ev X hT hb hk hf
   have e0 : ev (.tmp 7) = _ := hf.1
   have e1 : ev (.tmp 8) = _ := hf.2.1
   have e2 : ev (.tmp 10) = _ := hf.2.2.1
   refine OpOk.enters (f := 108) (args := #[.agg fc, w64 x, .int .i64 ((19 : Nat) : Int)]) (W' := X) (by simp [execOp, resolve, invoke, e0, e1, e2, hb.1, hb.2.1, go_sem]) ((turn_any x 19 (by decide) X).mono ?_)
   rintro e X2 ⟨rfl, h2⟩
   exact ⟨_, rfl, rfl, h2⟩
  ·intro ev X hT hb hk hf
   have e0 : ev (.tmp 3) = .pointer (some ⟨w.heap.size, 0, .none⟩) := hk.1
   exact OpOk.load_part _ _ rfl w.heap.size 0 e0 fc _ (part_of (HB.out X hT)) hu rfl hs ⟨rfl, Stay.refl _⟩
  ·exact fun _ _ _ _ hk hf => OpOk.m rfl hk.1
  ·intro ev X hT hb hk hf
   have e0 : ev (.tmp 5) = .pointer (some ⟨w.heap.size + 1, 0, .none⟩) := hk.1
   exact OpOk.r (by simp [execOp, e0, hb.1, go_sem])
  ·intro ev X hT hb hk hf
   have e0 : ev (.tmp 14) = _ := hf.1
   have cW := CT1.out X hT
   exact OpOk.r (by simp [execOp, e0, cW, go_sem])
  ·intro ev X hT hb hk hf
   have e0 : ev (.tmp 12) = _ := hf.1
   have e1 : ev (.tmp 13) = _ := hf.2.1
   have e2 : ev (.tmp 15) = _ := hf.2.2.1
   refine OpOk.enters (f := 108) (args := #[.agg fc, w64 x, .int .i64 ((61 : Nat) : Int)]) (W' := X) (by simp [execOp, resolve, invoke, e0, e1, e2, hb.1, hb.2.1, go_sem]) ((turn_any x 61 (by decide) X).mono ?_)
   rintro e X2 ⟨rfl, h2⟩
   exact ⟨_, rfl, rfl, h2⟩
  ·intro ev X hT hb hk hf
   have e0 : ev (.tmp 11) = _ := hf.1
   have e1 : ev (.tmp 16) = _ := hf.2.1
   exact OpOk.r (by simp [execOp, e0, e1, hb.1, xorw, -UInt64.toNat_add, -UInt64.toNat_xor, -UInt64.toNat_and, -UInt64.toNat_or, -UInt64.toNat_not, -UInt64.toNat_shiftRight, -UInt64.toNat_shiftLeft, go_sem])
  ·exact fun _ _ _ _ hk hf => OpOk.m rfl hk.1
  ·intro ev X hT hb hk hf
   have e0 : ev (.tmp 5) = .pointer (some ⟨w.heap.size + 1, 0, .none⟩) := hk.1
   exact OpOk.r (by simp [execOp, e0, hb.1, go_sem])
  ·intro ev X hT hb hk hf
   have e0 : ev (.tmp 19) = _ := hf.1
   have cW := CT2.out X hT
   exact OpOk.r (by simp [execOp, e0, cW, go_sem])
  ·intro ev X hT hb hk hf
   have e0 : ev (.tmp 18) = _ := hf.1
   have e1 : ev (.tmp 20) = _ := hf.2.1
   exact OpOk.r (by simp [execOp, e0, e1, hb.1, hshr, -UInt64.toNat_add, -UInt64.toNat_xor, -UInt64.toNat_and, -UInt64.toNat_or, -UInt64.toNat_not, -UInt64.toNat_shiftRight, -UInt64.toNat_shiftLeft, go_sem])
  ·intro ev X hT hb hk hf
   have e0 : ev (.tmp 17) = _ := hf.1
   have e1 : ev (.tmp 21) = _ := hf.2.1
   exact OpOk.r (by simp [execOp, e0, e1, hb.1, xorw, -UInt64.toNat_add, -UInt64.toNat_xor, -UInt64.toNat_and, -UInt64.toNat_or, -UInt64.toNat_not, -UInt64.toNat_shiftRight, -UInt64.toNat_shiftLeft, go_sem])
  ·intro ev X hT hb hk hf
   have e0 : ev (.tmp 22) = _ := hf.1
   exact OpOk.assign rfl e0 ⟨rfl, Stay.refl _⟩
 intro X hT
 rintro _ rfl _ rfl _ rfl _ rfl _ rfl _ rfl _ rfl _ rfl _ rfl _ rfl _ rfl _ rfl _ rfl _ rfl _ rfl _ rfl _ rfl
 have HBB := hide (Below.trans (((Below.refl w.heap.size w).alloc (Nat.le_refl _) (.cells fc 122)).alloc (by simp) (.cells (tc 19 61 6) 120)) (hT.mono (by simp; omega)))
 clear hT hshr
 go_wp2
 refine Rest.done ?_
 go_wp2_with fail
 go_ret
 exact ⟨rfl, HBB.out⟩
abbrev nv (n : Nat) : Value := .int .u64 (n : Int)
abbrev ownN (v : Value) (l : List Nat) : SP := own 22 1 v l.length (l.map nv)
def KW : List Nat := [4794697086780616226, 8158064640168781261, 13096744586834688815, 16840607885511220156, 4131703408338449720, 6480981068601479193, 10538285296894168987, 12329834152419229976, 15566598209576043074, 1334009975649890238, 2608012711638119052, 6128411473006802146, 8268148722764581231, 9286055187155687089, 11230858885718282805, 13951009754708518548, 16472876342353939154, 17275323862435702243, 1135362057144423861, 2597628984639134821, 3308224258029322869, 5365058923640841347, 6679025012923562964, 8573033837759648693, 10970295158949994411, 12119686244451234320, 12683024718118986047, 13788192230050041572, 14330467153632333762, 15395433587784984357, 489312712824947311, 1452737877330783856, 2861767655752347644, 3322285676063803686, 5560940570517711597, 5996557281743188959, 7280758554555802590, 8532644243296465576, 9350256976987008742, 10552545826968843579, 11727347734174303076, 12113106623233404929, 14000437183269869457, 14369950271660146224, 15101387698204529176, 15463397548674623760, 17586052441742319658, 1182934255886127544, 1847814050463011016, 2177327727835720531, 2830643537854262169, 3796741975233480872, 4115178125766777443, 5681478168544905931, 6601373596472566643, 7507060721942968483, 8399075790359081724, 8693463985226723168, 9568029438360202098, 10144078919501101548, 10430055236837252648, 11840083180663258601, 13761210420658862357, 14299343276471374635, 14566680578165727644, 15097957966210449927, 16922976911328602910, 17689382322260857208, 500013540394364858, 748580250866718886, 1242879168328830382, 1977374033974150939, 2944078676154940804, 3659926193048069267, 4368137639120453308, 4836135668995329356, 5532061633213252278, 6448918945643986474, 6902733635092675308, 7801388544844847127]
def HW : List Nat := [7640891576956012808, 13503953896175478587, 4354685564936845355, 11912009170470909681, 5840696475078001361, 11170449401992604703, 2270897969802886507, 6620516959819538809]
theorem KW_len : KW.length = 80 := rfl
theorem KW_arr : (KW.map nv).toArray = #[Value.int .u64 4794697086780616226, .int .u64 8158064640168781261, .int .u64 13096744586834688815, .int .u64 16840607885511220156, .int .u64 4131703408338449720, .int .u64 6480981068601479193, .int .u64 10538285296894168987, .int .u64 12329834152419229976, .int .u64 15566598209576043074, .int .u64 1334009975649890238, .int .u64 2608012711638119052, .int .u64 6128411473006802146, .int .u64 8268148722764581231, .int .u64 9286055187155687089, .int .u64 11230858885718282805, .int .u64 13951009754708518548, .int .u64 16472876342353939154, .int .u64 17275323862435702243, .int .u64 1135362057144423861, .int .u64 2597628984639134821, .int .u64 3308224258029322869, .int .u64 5365058923640841347, .int .u64 6679025012923562964, .int .u64 8573033837759648693, .int .u64 10970295158949994411, .int .u64 12119686244451234320, .int .u64 12683024718118986047, .int .u64 13788192230050041572, .int .u64 14330467153632333762, .int .u64 15395433587784984357, .int .u64 489312712824947311, .int .u64 1452737877330783856, .int .u64 2861767655752347644, .int .u64 3322285676063803686, .int .u64 5560940570517711597, .int .u64 5996557281743188959, .int .u64 7280758554555802590, .int .u64 8532644243296465576, .int .u64 9350256976987008742, .int .u64 10552545826968843579, .int .u64 11727347734174303076, .int .u64 12113106623233404929, .int .u64 14000437183269869457, .int .u64 14369950271660146224, .int .u64 15101387698204529176, .int .u64 15463397548674623760, .int .u64 17586052441742319658, .int .u64 1182934255886127544, .int .u64 1847814050463011016, .int .u64 2177327727835720531, .int .u64 2830643537854262169, .int .u64 3796741975233480872, .int .u64 4115178125766777443, .int .u64 5681478168544905931, .int .u64 6601373596472566643, .int .u64 7507060721942968483, .int .u64 8399075790359081724, .int .u64 8693463985226723168, .int .u64 9568029438360202098, .int .u64 10144078919501101548, .int .u64 10430055236837252648, .int .u64 11840083180663258601, .int .u64 13761210420658862357, .int .u64 14299343276471374635, .int .u64 14566680578165727644, .int .u64 15097957966210449927, .int .u64 16922976911328602910, .int .u64 17689382322260857208, .int .u64 500013540394364858, .int .u64 748580250866718886, .int .u64 1242879168328830382, .int .u64 1977374033974150939, .int .u64 2944078676154940804, .int .u64 3659926193048069267, .int .u64 4368137639120453308, .int .u64 4836135668995329356, .int .u64 5532061633213252278, .int .u64 6448918945643986474, .int .u64 6902733635092675308, .int .u64 7801388544844847127] := rfl
theorem HW_arr : (HW.map nv).toArray = #[Value.int .u64 7640891576956012808, .int .u64 13503953896175478587, .int .u64 4354685564936845355, .int .u64 11912009170470909681, .int .u64 5840696475078001361, .int .u64 11170449401992604703, .int .u64 2270897969802886507, .int .u64 6620516959819538809] := rfl
theorem KW_get : ∀ i, i < 80 → KW.getD i 0 / 2 ^ (64 - 64) = (K i).toNat ∧ KW.getD i 0 < 18446744073709551616 := by decide +kernel
theorem HW_get : ∀ i, i < 8 → HW.getD i 0 / 2 ^ (64 - 64) = (H0.list.getD i 0).toNat ∧ HW.getD i 0 < 18446744073709551616 := by decide +kernel
theorem words_any (w : World) : Calls Tryd.prog 98 #[] w (Makes w fun v => ownN v KW) := by
 have h := own_new 22 1 80 (KW.map nv) (on_all w) rfl (by decide)
 rw [KW_arr] at h
 have H := hide h
 have HS := hide ((Str.refl w).alloc (.cells #[.int .u64 4794697086780616226, .int .u64 8158064640168781261, .int .u64 13096744586834688815, .int .u64 16840607885511220156, .int .u64 4131703408338449720, .int .u64 6480981068601479193, .int .u64 10538285296894168987, .int .u64 12329834152419229976, .int .u64 15566598209576043074, .int .u64 1334009975649890238, .int .u64 2608012711638119052, .int .u64 6128411473006802146, .int .u64 8268148722764581231, .int .u64 9286055187155687089, .int .u64 11230858885718282805, .int .u64 13951009754708518548, .int .u64 16472876342353939154, .int .u64 17275323862435702243, .int .u64 1135362057144423861, .int .u64 2597628984639134821, .int .u64 3308224258029322869, .int .u64 5365058923640841347, .int .u64 6679025012923562964, .int .u64 8573033837759648693, .int .u64 10970295158949994411, .int .u64 12119686244451234320, .int .u64 12683024718118986047, .int .u64 13788192230050041572, .int .u64 14330467153632333762, .int .u64 15395433587784984357, .int .u64 489312712824947311, .int .u64 1452737877330783856, .int .u64 2861767655752347644, .int .u64 3322285676063803686, .int .u64 5560940570517711597, .int .u64 5996557281743188959, .int .u64 7280758554555802590, .int .u64 8532644243296465576, .int .u64 9350256976987008742, .int .u64 10552545826968843579, .int .u64 11727347734174303076, .int .u64 12113106623233404929, .int .u64 14000437183269869457, .int .u64 14369950271660146224, .int .u64 15101387698204529176, .int .u64 15463397548674623760, .int .u64 17586052441742319658, .int .u64 1182934255886127544, .int .u64 1847814050463011016, .int .u64 2177327727835720531, .int .u64 2830643537854262169, .int .u64 3796741975233480872, .int .u64 4115178125766777443, .int .u64 5681478168544905931, .int .u64 6601373596472566643, .int .u64 7507060721942968483, .int .u64 8399075790359081724, .int .u64 8693463985226723168, .int .u64 9568029438360202098, .int .u64 10144078919501101548, .int .u64 10430055236837252648, .int .u64 11840083180663258601, .int .u64 13761210420658862357, .int .u64 14299343276471374635, .int .u64 14566680578165727644, .int .u64 15097957966210449927, .int .u64 16922976911328602910, .int .u64 17689382322260857208, .int .u64 500013540394364858, .int .u64 748580250866718886, .int .u64 1242879168328830382, .int .u64 1977374033974150939, .int .u64 2944078676154940804, .int .u64 3659926193048069267, .int .u64 4368137639120453308, .int .u64 4836135668995329356, .int .u64 5532061633213252278, .int .u64 6448918945643986474, .int .u64 6902733635092675308, .int .u64 7801388544844847127] 22))
 clear h
 go_enter Tryd.func98, Tryd.ntmps98
 go_wp2_with fail
 go_ret
 exact ⟨_, rfl, H.out, HS.out⟩
theorem start_any (w : World) : Calls Tryd.prog 97 #[] w (Makes w fun v => ownN v HW) := by
 have h := own_new 22 1 8 (HW.map nv) (on_all w) rfl (by decide)
 rw [HW_arr] at h
 have H := hide h
 have HS := hide ((Str.refl w).alloc (.cells #[.int .u64 7640891576956012808, .int .u64 13503953896175478587, .int .u64 4354685564936845355, .int .u64 11912009170470909681, .int .u64 5840696475078001361, .int .u64 11170449401992604703, .int .u64 2270897969802886507, .int .u64 6620516959819538809] 22))
 clear h
 go_enter Tryd.func97, Tryd.ntmps97
 go_wp2_with fail
 go_ret
 exact ⟨_, rfl, H.out, HS.out⟩
theorem constant_any (y : Nat) (hy : y < 18446744073709551616) (w : World) : Calls Tryd.prog 96 #[.agg fc, .int .u64 (y : Int)] w fun e w' => e = .returned (.int .u64 ((y / 2 ^ (64 - 64) : Nat) : Int)) ∧ Below w.heap.size w w' := by
 go_enter Tryd.func96, Tryd.ntmps96
 go_wp2_with fail
 go_ret
 exact ⟨congrArg (fun v => Ending.returned (Value.int .u64 v)) (by simp), (Below.refl _ _).alloc (Nat.le_refl _) _⟩
theorem andw (x y : UInt64) : bits .and .u64 ((x.toNat : Nat) : Int) ((y.toNat : Nat) : Int) = (((x &&& y).toNat : Nat) : Int) := by
 have h1 := UInt64.toNat_lt x
 have h2 := UInt64.toNat_lt y
 rw [u64_and_nat _ _ (by omega) (by omega), UInt64.toNat_and]
theorem orw (x y : UInt64) : bits .or .u64 ((x.toNat : Nat) : Int) ((y.toNat : Nat) : Int) = (((x ||| y).toNat : Nat) : Int) := by
 have h1 := UInt64.toNat_lt x
 have h2 := UInt64.toNat_lt y
 rw [u64_or_nat _ _ (by omega) (by omega), UInt64.toNat_or]
theorem notw (x : UInt64) : bits .xor .u64 IntKind.u64.max ((x.toNat : Nat) : Int) = ((18446744073709551615 - x.toNat : Nat) : Int) := by
 have h1 := UInt64.toNat_lt x
 rw [not_u64 _ (by omega)]
theorem not_cut (x : UInt64) : (18446744073709551615 - x.toNat) % 18446744073709551616 = (~~~x).toNat := by
 have h1 := UInt64.toNat_lt x
 rw [UInt64.toNat_not]
 simp only [UInt64.size] at h1 ⊢
 omega
theorem ch_eq (x y z : UInt64) : (x &&& y) ^^^ (~~~x &&& z) = (x &&& y) ||| (~~~x &&& z) := by
 apply UInt64.toBitVec_inj.1
 apply BitVec.eq_of_getLsbD_eq
 intro i hi
 simp only [UInt64.toBitVec_xor, UInt64.toBitVec_and, UInt64.toBitVec_or, UInt64.toBitVec_not, BitVec.getLsbD_xor, BitVec.getLsbD_and, BitVec.getLsbD_or, BitVec.getLsbD_not]
 generalize x.toBitVec.getLsbD i = p
 generalize y.toBitVec.getLsbD i = q
 generalize z.toBitVec.getLsbD i = r
 generalize decide (i < 64) = d
 cases p <;> cases q <;> cases r <;> cases d <;> rfl
theorem maj_eq (x y z : UInt64) : ((x &&& y) ^^^ (x &&& z)) ^^^ (y &&& z) = ((x &&& y) ||| (x &&& z)) ||| (y &&& z) := by
 apply UInt64.toBitVec_inj.1
 apply BitVec.eq_of_getLsbD_eq
 intro i hi
 simp only [UInt64.toBitVec_xor, UInt64.toBitVec_and, UInt64.toBitVec_or, BitVec.getLsbD_xor, BitVec.getLsbD_and, BitVec.getLsbD_or]
 generalize x.toBitVec.getLsbD i = p
 generalize y.toBitVec.getLsbD i = q
 generalize z.toBitVec.getLsbD i = r
 cases p <;> cases q <;> cases r <;> rfl
def chW (s : St) : UInt64 := (s.e &&& s.f) ||| (~~~s.e &&& s.g)
def maW (s : St) : UInt64 := ((s.a &&& s.b) ||| (s.a &&& s.c)) ||| (s.b &&& s.c)
abbrev m64 (n : Nat) : Nat := n % 18446744073709551616
theorem p_nat (s : St) (k w : UInt64) : (pOf s k w).toNat = m64 (m64 (m64 (m64 (s.h.toNat + (big1 s.e).toNat) + (chW s).toNat) + k.toNat) + w.toNat) % 18446744073709551616 := by
 unfold pOf chW m64
 rw [ch_eq]
 simp only [UInt64.toNat_add]
 omega
theorem pq_nat (s : St) (k w : UInt64) : (pOf s k w + qOf s).toNat = m64 (m64 (m64 (m64 (m64 (s.h.toNat + (big1 s.e).toNat) + (chW s).toNat) + k.toNat) + w.toNat) + m64 ((big0 s.a).toNat + (maW s).toNat)) % 18446744073709551616 := by
 rw [UInt64.toNat_add, p_nat]
 unfold qOf maW m64
 rw [maj_eq]
 simp only [UInt64.toNat_add]
 omega
theorem dp_nat (s : St) (k w : UInt64) : (s.d + pOf s k w).toNat = m64 (s.d.toNat + m64 (m64 (m64 (m64 (s.h.toNat + (big1 s.e).toNat) + (chW s).toNat) + k.toNat) + w.toNat)) % 18446744073709551616 := by
 rw [UInt64.toNat_add, p_nat]
 unfold m64
 omega
def stN (s : St) : List Value := [w64 s.a, w64 s.b, w64 s.c, w64 s.d, w64 s.e, w64 s.f, w64 s.g, w64 s.h]
theorem stN_list (s : St) : stN s = (s.list.map (·.toNat)).map nv := rfl
def RQ (g gs gw gk j : Nat) (s : St) (xw : UInt64) (kj : Nat) (Y : World) : Prop :=
 Y.heap[g]? = some (.cells fc 122 (0, 0)) ∧ (∀ t x, (stN s)[t]? = some x → Y.cell? ⟨gs, t, .none⟩ = some x) ∧ Y.cell? ⟨gw, j, .none⟩ = some (w64 xw) ∧ Y.cell? ⟨gk, j, .none⟩ = some (nv kj)
theorem fc_big0 {X : World} {g : Nat} (h : X.heap[g]? = some (.cells fc 122 (0, 0))) : ∀ j v, (tc 28 34 39)[j]? = some v → X.cell? ⟨g, 2 + j, .none⟩ = some v := by
 intro j v hj
 rw [cell_of_row _ _ _ _ _ _ h]
 match j, hj with
 | 0, hj => exact hj
 | 1, hj => exact hj
 | 2, hj => exact hj
 | n + 3, hj => simp [tc] at hj
theorem fc_big1 {X : World} {g : Nat} (h : X.heap[g]? = some (.cells fc 122 (0, 0))) : ∀ j v, (tc 14 18 41)[j]? = some v → X.cell? ⟨g, 5 + j, .none⟩ = some v := by
 intro j v hj
 rw [cell_of_row _ _ _ _ _ _ h]
 match j, hj with
 | 0, hj => exact hj
 | 1, hj => exact hj
 | 2, hj => exact hj
 | n + 3, hj => simp [tc] at hj
theorem wrap_m64 (a b : Nat) : IntKind.u64.wrap ((a : Int) + (b : Int)) = ((m64 (a + b) : Nat) : Int) := by
 rw [IntKind.wrap_u64]
 unfold m64
 omega
theorem m64_lt (n : Nat) : m64 n < 18446744073709551616 := by unfold m64; omega
theorem shr_out (x q : Nat) (hq : q < 8) : Op.shift .shr .u64 (x : Int) .i64 (8 * ((8 - 1 : Int) - (q : Int))) = (Pure.pure (.int .u64 ((x : Int) / 2 ^ (56 - 8 * q))) : Sem Value) := by
 have e : 8 * ((8 - 1 : Int) - (q : Int)) = 56 - 8 * (q : Int) := by omega
 rw [e, shift_shr_any _ _ _ _ (by omega)]
 congr 2
 have e : (56 - 8 * (q : Int)).toNat = 56 - 8 * q := by omega
 rw [e]
 have hb : IntKind.u64.bits = 64 := rfl
 rw [hb, Nat.min_eq_left (by omega)]
def outN (s : St) (i : Nat) : List UInt8 := (s.list.take i).flatMap (fun x => outW x 8)
theorem outN_step (s : St) (i : Nat) (x : UInt64) (hx : s.list[i]? = some x) : outN s (i + 1) = outN s i ++ outW x 8 := by
 unfold outN
 rw [List.take_add_one, hx, List.flatMap_append]
 simp
theorem outN_all (s : St) : outN s 8 = outS s := by
 simp [outN, outS, St.list, List.flatMap]
theorem outN_len (s : St) : ∀ i, i ≤ 8 → (outN s i).length = 8 * i
 | 0, _ => rfl
 | i + 1, h => by
  have hx : s.list[i]? = some (s.list.getD i 0) := by
   rw [List.getD_eq_getElem?_getD, List.getElem?_eq_getElem (show i < s.list.length by simp [St.list]; omega)]; rfl
  rw [outN_step s i _ hx, List.length_append, outN_len s i (by omega), outW_len]
  omega
end Sha64
end Go.Proofs.YtbplbdnofobbiaaDoor
