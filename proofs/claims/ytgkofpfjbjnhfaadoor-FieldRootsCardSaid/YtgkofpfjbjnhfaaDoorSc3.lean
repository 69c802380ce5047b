/- scalar: twice a number, and a bit more. -/
import Derived.Test.YtgkofpfjbjnhfaaDoorSc2
namespace Go.Proofs.YtgkofpfjbjnhfaaDoor
open Go.ChangeShapes Go.WideShapes Go.ChangeAt Go.RowKit
set_option linter.unusedVariables false
set_option linter.unusedSimpArgs false

/-- what is carried into a limb of the double -/
def cy (n b k : Nat) : Nat := (2 * (n % 18446744073709551616 ^ k) + b) / 18446744073709551616 ^ k
theorem cy_0 (n b : Nat) : cy n b 0 = b := by simp [cy, Nat.mod_one]
theorem cy_step (n b k : Nat) (hb : b ≤ 1) (hk : k < 4) : cy n b (k + 1) = limb n k / 9223372036854775808 := by
  unfold cy limb
  match k, hk with
  | 0, _ => simp only [Nat.reducePow, Nat.reduceAdd]; omega
  | 1, _ => simp only [Nat.reducePow, Nat.reduceAdd]; omega
  | 2, _ => simp only [Nat.reducePow, Nat.reduceAdd]; omega
  | 3, _ => simp only [Nat.reducePow, Nat.reduceAdd]; omega
theorem cy_le (n b k : Nat) (hb : b ≤ 1) (hk : k ≤ 4) : cy n b k ≤ 1 := by
  unfold cy
  match k, hk with
  | 0, _ => simp only [Nat.reducePow]; omega
  | 1, _ => simp only [Nat.reducePow]; omega
  | 2, _ => simp only [Nat.reducePow]; omega
  | 3, _ => simp only [Nat.reducePow]; omega
  | 4, _ => simp only [Nat.reducePow]; omega
theorem dbl_limb (n b k : Nat) (hb : b ≤ 1) (hk : k < 4) : limb (2 * n + b) k = (2 * limb n k) % 18446744073709551616 + cy n b k := by
  unfold cy limb
  match k, hk with
  | 0, _ => simp only [Nat.reducePow]; omega
  | 1, _ => simp only [Nat.reducePow]; omega
  | 2, _ => simp only [Nat.reducePow]; omega
  | 3, _ => simp only [Nat.reducePow]; omega
theorem even_or (x c : Nat) (hc : c ≤ 1) : (2 * x) % 18446744073709551616 ||| c = (2 * x) % 18446744073709551616 + c := by
  have e : (2 * x) % 18446744073709551616 = 2 * (x % 9223372036854775808) := by omega
  rw [e]
  have : c = 0 ∨ c = 1 := by omega
  rcases this with rfl | rfl
  · simp
  · rw [show 2 * (x % 9223372036854775808) = (x % 9223372036854775808) <<< 1 by rw [Nat.shiftLeft_eq]; omega, ← Nat.shiftLeft_add_eq_or_of_lt (by decide)]

set_option maxRecDepth 100000 in
set_option maxHeartbeats 8000000 in
theorem twice_any (n : Nat) (b : Nat) (hb : b ≤ 1) (w : World) :
    Calls Tryd.prog 73 #[.agg (q4 n), .int .u8 (b : Nat)] w fun e w' => e = .returned (.agg (q4 (2 * n + b))) ∧ Below w.heap.size w w' := by
  have hu := Tryd.underlying58
  have hu6 := Tryd.underlying22
  have hz : ∀ w, (zeroValue 58).run Tryd.prog w = .ok (.agg (q4 0)) w := fun w => by rw [qz4]; kernel_rfl
  have hs : (Tryd.prog.info? 58).map (·.size) = some 4 := by kernel_rfl
  have Hs : ∀ n, (Tryd.prog.info? 58).map (·.size) = some (q4 n).size := fun n => by rw [q4_size]; exact hs
  have HsR := hide (Hs (2 * n + b))
  have HsA := hide (Hs n)
  have h0 := ((on_all w).alloc (.cells (q4 n) 58)).alloc (.cells (q4 0) 58)
  have hs0 := ((Str.refl w).alloc (.cells (q4 n) 58)).alloc (.cells (q4 0) 58)
  rw [World.size_alloc] at h0
  have gA0 := on_blk_mul h0.right
  have Hidx : Hid (∀ (X : World) (k : Nat), k < 4 → (Instr.index 58 (.agg (q4 n)) (.int .i64 (k : Int))).run Tryd.prog X = .ok (lv (limb n k)) X) := hide fun X k hk => run_index_one X 58 22 4 (q4 n) k (lv (limb n k)) .u64 hu hu6 (by kernel_rfl) hk (lvs_get _ k _ (qs_get 4 n k hk))
  have H0 := hide h0
  have HS0 := hide hs0
  clear h0 hs0 hs Hs
  generalize hA : q4 n = A4 at *
  generalize hZ : q4 0 = Z4 at *
  have HA := hide hA
  have HZ := hide hZ
  clear hA hZ
  go_enter Tryd.func73, Tryd.ntmps73
  go_wp2_with (refine wpList_load_row rfl _ _ rfl w.heap.size rfl _ A4 _ _ gA0 hu rfl HsA.out ?_)
  generalize (w.alloc (.cells A4 58)).alloc (.cells Z4 58) = w1 at *
  go_loopw [5, 11] (fun cv i wr => ∃ k : Nat, k ≤ 4 ∧ i = .int .i64 k ∧ cv = lv (cy n b k) ∧ (blk w.heap.size (.cells (lvs ((qs 4 (2 * n + b)).take k ++ (qs 4 n).drop k)) 58 (0, 0)) * (blk (w.heap.size + 1) (.cells Z4 58 (0, 0)) * all w)).on wr ∧ Str w wr) (fun _ i _ => 4 - (intOf i).toNat)
  case atStart =>
    refine ⟨0, by omega, rfl, by rw [cy_0], ?_, HS0.out⟩
    have := H0.out
    rw [SP.mul_left_comm, ← HA.out] at this
    exact this
  case round =>
    obtain ⟨k, hk, rfl, rfl, hX, hS2⟩ := hrel
    have HXk := hide hX
    have HSk := hide hS2
    clear hX hS2 H0 HS0 gA0
    by_cases hlt : k < 4
    · have hi := Hidx.out wr k hlt
      have Hset := hide (set_takeN (qs 4 (2 * n + b)) (qs 4 n) k (limb (2 * n + b) k) (qs_get 4 _ k hlt) (by rw [qs_len]; exact hlt))
      have hst := cy_step n b k hb hlt
      have hdl := dbl_limb n b k hb hlt
      have hcl := cy_le n b k hb hk
      have hcl2 := cy_le n b (k + 1) hb (by omega)
      have l1 := limb_lt n k
      have l2 := limb_lt (2 * n + b) k
      have hor := even_or (limb n k) (cy n b k) hcl
      rw [← hdl] at hor
      have hpl : ((qs 4 (2 * n + b)).take k ++ (qs 4 n).drop k).length = 4 := by rw [List.length_append, List.length_take, List.length_drop, qs_len, qs_len]; omega
      obtain ⟨pl, hpl2⟩ : ∃ pl, pl = (qs 4 (2 * n + b)).take k ++ (qs 4 n).drop k := ⟨_, rfl⟩
      rw [← hpl2] at hpl HXk Hset
      obtain ⟨old, hold⟩ : ∃ v, wr.cell? ⟨w.heap.size, k, Option.none⟩ = some v := ⟨_, (cell_of_row wr w.heap.size k _ _ _ (on_blk_mul HXk.out)).trans (lvs_get pl k pl[k] (List.getElem?_eq_getElem (by omega)))⟩
      have hfr := frozen_of_row wr w.heap.size k _ _ (on_blk_mul HXk.out)
      have hk4 : (k : Int) < 4 := by omega
      have Hst := hide hst
      have q1 : bits .or .u64 ((2 * limb n k % 18446744073709551616 : Nat) : Int) ((cy n b k : Nat) : Int) = ((limb (2 * n + b) k : Nat) : Int) := (u64_or_nat _ _ (by omega) (by omega)).trans (congrArg Int.ofNat hor)
      clear hpl2 hpl hor hdl hst
      generalize limb n k = x at *
      generalize cy n b k = c at *
      generalize hc2 : cy n b (k + 1) = c2 at *
      generalize limb (2 * n + b) k = T at *
      have Hc2 := hide hc2
      clear hc2
      have q2 : bits .or .u64 (IntKind.u64.wrap ((x : Int) * 2)) (c : Int) = (T : Int) := by
        rw [← q1]
        congr 1
        rw [show IntKind.u64.wrap ((x : Int) * 2) = ((x : Int) * 2) % 18446744073709551616 from IntKind.wrap_u64 _]
        omega
      have Q2 := hide q2
      clear q1 q2
      go_wp2_with fail
      rw [Q2.out]
      refine ⟨⟨k + 1, by omega, by simp, ?_, ?_, HSk.out.setCell _ _⟩, by simp [intOf]; omega⟩
      · rw [Hc2.out]
        exact congrArg (Value.int IntKind.u64) (by have := Hst.out; omega)
      · have h3 := SP.on.setCell (i := k) HXk.out (lv T)
        rw [lvs_set, Hset.out] at h3
        exact h3
    · obtain rfl : k = 4 := by omega
      have e4 : (qs 4 (2 * n + b)).take 4 ++ (qs 4 n).drop 4 = qs 4 (2 * n + b) := by rw [List.take_of_length_le (by rw [qs_len]; omega), List.drop_of_length_le (by rw [qs_len]; omega), List.append_nil]
      rw [e4] at HXk
      have gA := on_blk_mul HXk.out
      have gR := on_blk_mul HXk.out.right
      have HB := hide (all_below HXk.out.right.right HSk.out)
      have hone := lvs_one (qs 4 (2 * n + b))
      have hzA : Z4.size = (q4 (2 * n + b)).size := by rw [← HZ.out, q4_size, q4_size]
      obtain ⟨R4, hR4⟩ : ∃ R4, R4 = q4 (2 * n + b) := ⟨_, rfl⟩
      have HR4 := hide hR4
      have HsR2 : Hid ((Tryd.prog.info? 58).map (·.size) = some R4.size) := hide (by rw [hR4]; exact HsR.out)
      rw [show lvs (qs 4 (2 * n + b)) = R4 from hR4.symm] at gA hone
      rw [← hR4] at hzA
      clear e4 hR4 HXk
      go_wp2_with (first
        | (refine wpList_store_row rfl _ _ _ rfl (w.heap.size + 1) R4 rfl rfl _ _ gR HsR2.out hzA hone ?_)
        | (refine wpList_load_row rfl _ _ rfl w.heap.size rfl _ R4 _ _ gA hu rfl HsR2.out ?_))
      refine bodyPost_ret (v := .agg R4) (results_cell_row Tryd.results73 _ _ (w.heap.size + 1) _ R4 (0, 0) _ rfl (setRow_heap_same _ _ _ _ _ _ gR) hu rfl HsR2.out) rfl ⟨by rw [HR4.out], below_setRow HB.out (by omega) _⟩
end Go.Proofs.YtgkofpfjbjnhfaaDoor
