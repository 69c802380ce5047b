/- SHA-2 on words of 32 bits: what the document's small functions give. -/
import Derived.Test.YtgkofpfjbjnhfaaDoorSha8S
import Derived.IntWalk
namespace Go.Proofs.YtgkofpfjbjnhfaaDoor
open Go.ChangeShapes Go.WideShapes Go.ChangeAt Go.RowKit
namespace Sha32
set_option linter.unusedVariables false
set_option linter.unusedSimpArgs false

/-- the form, as a value -/
abbrev fc : Array Value := #[.int .i64 32, .int .i64 64, .int .i64 2, .int .i64 13, .int .i64 22, .int .i64 6, .int .i64 11, .int .i64 25, .int .i64 7, .int .i64 18, .int .i64 3, .int .i64 17, .int .i64 19, .int .i64 10]
abbrev tc (a b c : Int) : Array Value := #[.int .i64 a, .int .i64 b, .int .i64 c]
/-- a word, as the document's number of 64 bits -/
abbrev w64 (x : UInt32) : Value := .int .u64 ((x.toNat : Nat) : Int)
abbrev zf14 : Array Value := #[.int .i64 0, .int .i64 0, .int .i64 0, .int .i64 0, .int .i64 0, .int .i64 0, .int .i64 0, .int .i64 0, .int .i64 0, .int .i64 0, .int .i64 0, .int .i64 0, .int .i64 0, .int .i64 0]

set_option maxRecDepth 100000 in
set_option maxHeartbeats 4000000 in
theorem short_any (w : World) : Calls Tryd.prog 79 #[] w fun e w' => e = .returned (.agg fc) ∧ Below w.heap.size w w' := by
  have hu := Tryd.underlying112
  have hz : ∀ w, (zeroValue 112).run Tryd.prog w = .ok (.agg zf14) w := fun w => by kernel_rfl
  have hs : (Tryd.prog.info? 112).map (·.size) = some fc.size := by kernel_rfl
  have hr := heap_alloc_new w (.cells zf14 112)
  go_enter Tryd.func79, Tryd.ntmps79
  go_wp2_with fail
  refine bodyPost_ret (v := .agg fc) (results_cell_row Tryd.results79 _ _ w.heap.size _ fc (0, 0) _ rfl (heap_alloc_new w _) hu rfl hs) rfl ?_
  exact ⟨rfl, (Below.refl _ _).alloc (Nat.le_refl _) _⟩

set_option maxRecDepth 100000 in
set_option maxHeartbeats 4000000 in
theorem cut_any (y : Nat) (hy : y < 18446744073709551616) (w : World) : Calls Tryd.prog 97 #[.agg fc, .int .u64 (y : Int)] w fun e w' => e = .returned (.int .u64 ((y % 4294967296 : Nat) : Int)) ∧ Below w.heap.size w w' := by
  go_enter Tryd.func97, Tryd.ntmps97
  go_wp2_with fail
  go_ret
  exact ⟨congrArg (fun v => Ending.returned (Value.int .u64 v)) (by omega), (Below.refl _ _).alloc (Nat.le_refl _) _⟩

theorem fc_part (w : World) (X : World) (g : Nat) (h : X.heap[g]? = some (.cells fc 112 (0, 0))) :
    X.cell? ⟨g, 0, Option.none⟩ = some (.int .i64 32) ∧ X.cell? ⟨g, 1, Option.none⟩ = some (.int .i64 64) := by
  refine ⟨?_, ?_⟩ <;> (rw [cell_of_row _ _ _ _ _ _ h]; rfl)
theorem part_of {X : World} {g : Nat} {cs : Array Value} {t : TypeId} {fr : Nat × Nat} (h : X.heap[g]? = some (.cells cs t fr)) : ∀ j v, cs[j]? = some v → X.cell? ⟨g, 0 + j, Option.none⟩ = some v := fun j v hj => by
  rw [Nat.zero_add, cell_of_row _ _ _ _ _ _ h]
  exact hj
theorem turn_nat (x : UInt32) (n : Nat) (h0 : 0 < n) (hn : n < 32) : (x.toNat / 2 ^ n ||| x.toNat * 2 ^ (32 - n) % 18446744073709551616) % 4294967296 = (rotr x n).toNat := by
  unfold rotr
  have h1 : (UInt32.ofNat (32 - n)).toNat % 32 = 32 - n := by simp; omega
  have h2 : (UInt32.ofNat n).toNat % 32 = n := by simp; omega
  rw [UInt32.toNat_or, UInt32.toNat_shiftLeft, UInt32.toNat_shiftRight, h1, h2, Nat.shiftRight_eq_div_pow, Nat.shiftLeft_eq, Nat.or_comm]
  rw [show (4294967296 : Nat) = 2 ^ 32 from rfl, Nat.or_mod_two_pow]
  congr 1
  · first
    | (rw [show (18446744073709551616 : Nat) = 2 ^ 32 * 2 ^ (64 - 32) from rfl, Nat.mod_mul_right_mod])
    | simp
  · exact Nat.mod_eq_of_lt (Nat.lt_of_le_of_lt (Nat.div_le_self _ _) (UInt32.toNat_lt x))
set_option maxRecDepth 100000 in
set_option maxHeartbeats 4000000 in
theorem turn_any (x : UInt32) (n : Nat) (hn : n ∈ [2, 6, 7, 11, 13, 17, 18, 19, 22, 25]) (w : World) : Calls Tryd.prog 107 #[.agg fc, w64 x, .int .i64 (n : Int)] w fun e w' => e = .returned (w64 (rotr x n)) ∧ Below w.heap.size w w' := by
  have hu := Tryd.underlying112
  have hs : (Tryd.prog.info? 112).map (·.size) = some fc.size := by kernel_rfl
  have hr := heap_alloc_new w (.cells fc 112)
  have hx := UInt32.toNat_lt x
  have Hr := hide hr
  have hb : 0 < n ∧ n < 32 := by
    simp only [List.mem_cons, List.not_mem_nil, or_false] at hn
    omega
  obtain ⟨h0, hn2⟩ := hb
  have HT := hide (turn_nat x n h0 hn2)
  have HB : Hid (∀ X, Stay (w.alloc (.cells fc 112)) X → X.heap[w.heap.size]? = some (.cells fc 112 (0, 0))) := hide fun X hT => (hT.block _ (by simp)).trans hr
  have hsub : IntKind.i64.wrap ((32 : Int) - (n : Int)) = ((32 - n : Nat) : Int) := by rw [IntWalk.i64_in _ (by omega)]; omega
  obtain ⟨A, hAe⟩ : ∃ A, A = x.toNat / 2 ^ n := ⟨_, rfl⟩
  obtain ⟨B, hBe⟩ : ∃ B, B = x.toNat * 2 ^ (32 - n) % 18446744073709551616 := ⟨_, rfl⟩
  rw [← hAe, ← hBe] at HT
  have hA : (x.toNat : Int) / 2 ^ n = (A : Int) := by rw [hAe]; simp
  have hB : IntKind.u64.wrap ((x.toNat : Int) * 2 ^ (32 - n)) = (B : Int) := by rw [hBe, IntKind.wrap_u64]; simp
  have hA1 : A < 18446744073709551616 := by
    have : A ≤ x.toNat := by rw [hAe]; exact Nat.div_le_self _ _
    omega
  have hB1 : B < 18446744073709551616 := by rw [hBe]; exact Nat.mod_lt _ (by decide)
  have hAB := u64_or_nat A B hA1 hB1
  have hlt : A ||| B < 18446744073709551616 := Nat.or_lt_two_pow (n := 64) hA1 hB1
  have hn64 : (n : Int) ≤ 64 := by omega
  have hsh : ((32 - n : Nat) : Int) ≤ 64 := by omega
  have HFacts := hide (⟨hsub, hA, hB, hAB⟩ : IntKind.i64.wrap ((32 : Int) - (n : Int)) = ((32 - n : Nat) : Int) ∧ (x.toNat : Int) / 2 ^ n = (A : Int) ∧ IntKind.u64.wrap ((x.toNat : Int) * 2 ^ (32 - n)) = (B : Int) ∧ bits .or .u64 (A : Int) (B : Int) = ((A ||| B : Nat) : Int))
  clear hr hn hAe hBe hsub hA hB hAB
  go_enter Tryd.func107, Tryd.ntmps107
  go_wp2_with fail
  obtain ⟨hsub, hA, hB, hAB⟩ := HFacts.out
  refine wp_region_vs [isV (.agg fc), isV (w64 x), isV (.int .i64 (n : Int)), isV (.int .u64 (A : Int)), isV (w64 x), isV (.pointer (some ⟨w.heap.size, 0, Option.none⟩)), isV (.int .i64 32), isV (.int .i64 (n : Int)), isV (.int .i64 ((32 - n : Nat) : Int)), isV (.int .u64 (B : Int)), isV (.int .u64 ((A ||| B : Nat) : Int)), isV (w64 (rotr x n)), isV (w64 (rotr x n))]
    (by kernel_rfl) (by kernel_rfl) rfl ?keep ?todo ?rest
  case keep => exact ⟨Keep.isV _, Keep.isV _, Keep.isV _, Keep.isV _, Keep.isV _, Keep.isV _, Keep.isV _, Keep.isV _, Keep.isV _, Keep.isV _, Keep.isV _, Keep.isV _, Keep.isV _, trivial⟩
  case todo =>
    refine ⟨?_, ?_, ?_, ?_, ?_, ?_, ?_, ?_, ?_, ?_, ?_, ?_, ?_, trivial⟩
    · intro ev X hT hb hk hf
      have e0 : ev (.tmp 3) = .pointer (some ⟨w.heap.size, 0, Option.none⟩) := hk.1
      exact OpOk.load_part _ _ rfl w.heap.size 0 e0 fc _ (part_of (HB.out X hT)) hu rfl hs ⟨rfl, Stay.refl _⟩
    · intro ev X hT hb hk hf
      have e0 : ev (.tmp 1) = w64 x := hk.1
      exact OpOk.move rfl e0 ⟨rfl, Stay.refl _⟩
    · intro ev X hT hb hk hf
      have e0 : ev (.tmp 2) = .int .i64 (n : Int) := hk.1
      exact OpOk.move rfl e0 ⟨rfl, Stay.refl _⟩
    · intro ev X hT hb hk hf
      have e0 : ev (.tmp 8) = w64 x := hf.1
      have e1 : ev (.tmp 9) = .int .i64 (n : Int) := hf.2.1
      exact OpOk.run (v := .int .u64 (A : Int)) (W' := X) (by simp [execOp, e0, e1, hb.1, hn64, hA, go_sem]) ⟨rfl, Stay.refl _⟩
    · intro ev X hT hb hk hf
      have e0 : ev (.tmp 1) = w64 x := hk.1
      exact OpOk.move rfl e0 ⟨rfl, Stay.refl _⟩
    · intro ev X hT hb hk hf
      have e0 : ev (.tmp 3) = .pointer (some ⟨w.heap.size, 0, Option.none⟩) := hk.1
      exact OpOk.run (v := .pointer (some ⟨w.heap.size, 0, Option.none⟩)) (W' := X) (by simp [execOp, e0, hb.1, go_sem]) ⟨rfl, Stay.refl _⟩
    · intro ev X hT hb hk hf
      have e0 : ev (.tmp 12) = .pointer (some ⟨w.heap.size, 0, Option.none⟩) := hf.1
      have cW := (fc_part w X w.heap.size (HB.out X hT)).1
      exact OpOk.run (v := .int .i64 32) (W' := X) (by simp [execOp, e0, cW, go_sem]) ⟨rfl, Stay.refl _⟩
    · intro ev X hT hb hk hf
      have e0 : ev (.tmp 2) = .int .i64 (n : Int) := hk.1
      exact OpOk.move rfl e0 ⟨rfl, Stay.refl _⟩
    · intro ev X hT hb hk hf
      have e0 : ev (.tmp 13) = .int .i64 32 := hf.1
      have e1 : ev (.tmp 14) = .int .i64 (n : Int) := hf.2.1
      exact OpOk.run (v := .int .i64 ((32 - n : Nat) : Int)) (W' := X) (by simp [execOp, e0, e1, hb.1, hsub, go_sem]) ⟨rfl, Stay.refl _⟩
    · intro ev X hT hb hk hf
      have e0 : ev (.tmp 11) = w64 x := hf.1
      have e1 : ev (.tmp 15) = .int .i64 ((32 - n : Nat) : Int) := hf.2.1
      exact OpOk.run (v := .int .u64 (B : Int)) (W' := X) (by simp [execOp, e0, e1, hb.1, hB, hsh, go_sem]) ⟨rfl, Stay.refl _⟩
    · intro ev X hT hb hk hf
      have e0 : ev (.tmp 10) = .int .u64 (A : Int) := hf.1
      have e1 : ev (.tmp 16) = .int .u64 (B : Int) := hf.2.1
      exact OpOk.run (v := .int .u64 ((A ||| B : Nat) : Int)) (W' := X) (by simp [execOp, e0, e1, hb.1, hAB, go_sem]) ⟨rfl, Stay.refl _⟩
    · intro ev X hT hb hk hf
      have e0 : ev (.tmp 7) = .agg fc := hf.1
      have e1 : ev (.tmp 17) = .int .u64 ((A ||| B : Nat) : Int) := hf.2.1
      refine OpOk.enters (f := 97) (args := #[.agg fc, .int .u64 ((A ||| B : Nat) : Int)]) (W' := X) (by simp [execOp, resolve, invoke, e0, e1, hb.1, hb.2.1, go_sem]) ((cut_any (A ||| B) hlt X).mono ?_)
      rintro e X2 ⟨rfl, h2⟩
      exact ⟨_, rfl, by rw [HT.out]; exact rfl, h2⟩
    · intro ev X hT hb hk hf
      have e0 : ev (.tmp 18) = w64 (rotr x n) := hf.1
      exact OpOk.assign rfl e0 ⟨rfl, Stay.refl _⟩
  case rest =>
    intro X hT
    rintro _ rfl _ rfl _ rfl _ rfl _ rfl _ rfl _ rfl _ rfl _ rfl _ rfl _ rfl _ rfl _ rfl
    have HBB := hide (Below.trans ((Below.refl w.heap.size w).alloc (Nat.le_refl _) (.cells fc 112)) (hT.mono (by simp)))
    clear hT hsub hA hB hAB
    go_wp2
    refine Rest.done ?_
    go_wp2_with fail
    go_ret
    exact ⟨rfl, HBB.out⟩
end Sha32
end Go.Proofs.YtgkofpfjbjnhfaaDoor
