/- scalar: the product. -/
import Derived.Test.YtgkofpfjbjnhfaaDoorSc8
namespace Go.Proofs.YtgkofpfjbjnhfaaDoor
open Go.ChangeShapes Go.WideShapes Go.ChangeAt Go.RowKit
set_option linter.unusedVariables false
set_option linter.unusedSimpArgs false

abbrev q8 (n : Nat) : Array Value := lvs (qs 8 n)
theorem q8_size (n : Nat) : (q8 n).size = 8 := by rw [lvs_size, qs_len]
/-- the words within a row of the product -/
def wMid (a b i j : Nat) : List Nat := (qs 8 (uMul (pMul a b i) (limb a i) b i j)).take (i + j) ++ (qs 8 (pMul a b i)).drop (i + j)
theorem wMid_len (a b i j : Nat) (h : i + j ≤ 8) : (wMid a b i j).length = 8 := by
  unfold wMid
  rw [List.length_append, List.length_take, List.length_drop, qs_len, qs_len]; omega
theorem wMid_get (a b i j : Nat) (h : i + j < 8) : (wMid a b i j)[i + j]? = some (limb (pMul a b i) (i + j)) := by
  unfold wMid
  have hl : ((qs 8 (uMul (pMul a b i) (limb a i) b i j)).take (i + j)).length = i + j := by rw [List.length_take, qs_len]; omega
  rw [List.getElem?_append_right (by omega), hl, Nat.sub_self, List.getElem?_drop, Nat.add_zero, qs_get 8 _ _ h]
theorem wMid_set (a b i j : Nat) (h : i + j < 8) : (wMid a b i j).set (i + j) (limb (uMul (pMul a b i) (limb a i) b i (j + 1)) (i + j)) = wMid a b i (j + 1) := by
  unfold wMid
  rw [← qs_take_low 8 _ _ _ (uMul_low (pMul a b i) (limb a i) b i j), ← Nat.add_assoc]
  exact set_takeN _ _ _ _ (qs_get 8 _ _ h) (by rw [qs_len]; exact h)
theorem wMid_0 (a b i : Nat) (hi : i ≤ 8) : wMid a b i 0 = qs 8 (pMul a b i) := by
  unfold wMid
  rw [Nat.add_zero, qs_take_low 8 _ (pMul a b i) i (by rw [uMul_0, Nat.mod_mod]), List.take_append_drop]
theorem wMid_4 (a b i : Nat) (hi : i < 4) (hb : b < 18446744073709551616 ^ 4) : (wMid a b i 4).set (i + 4) (oMul (pMul a b i) (limb a i) b i 4) = qs 8 (pMul a b (i + 1)) := by
  have e := pMul_step a b i hb
  have h1 : pMul a b (i + 1) < 18446744073709551616 ^ (i + 4 + 1) := by have := pMul_lt a b (i + 1) hb; rwa [show i + 1 + 4 = i + 4 + 1 by omega] at this
  have h0 := pMul_lt a b i hb
  unfold wMid oMul
  rw [← e, ← limb_top _ _ h1, set_takeN _ _ _ _ (qs_get 8 _ _ (by omega)) (by rw [qs_len]; omega)]
  rw [← qs_drop_high 8 (pMul a b (i + 1)) (pMul a b i) (i + 4 + 1) h1 (Nat.lt_trans h0 (Nat.pow_lt_pow_right (by decide) (by omega))), List.take_append_drop]

set_option maxRecDepth 100000 in
set_option maxHeartbeats 8000000 in
theorem mul_any (a b : Nat) (ha : a < 18446744073709551616 ^ 4) (hb : b < 18446744073709551616 ^ 4) (w : World) (hO : TabO w) :
    Calls Tryd.prog 42 #[.agg (q4 a), .agg (q4 b)] w fun e w' => e = .returned (.agg (q4 (a * b % O6))) ∧ Below w.heap.size w w' := by
  have hu := Tryd.underlying58
  have hu6 := Tryd.underlying22
  have hu8 := Tryd.underlying97
  have hz : ∀ w, (zeroValue 58).run Tryd.prog w = .ok (.agg (q4 0)) w := fun w => by rw [qz4]; kernel_rfl
  have hz8 : ∀ w, (zeroValue 97).run Tryd.prog w = .ok (.agg (q8 0)) w := fun w => by kernel_rfl
  have Hs : ∀ n, (Tryd.prog.info? 58).map (·.size) = some (q4 n).size := fun n => by rw [q4_size]; kernel_rfl
  have HsA := hide (Hs a)
  have HsB := hide (Hs b)
  have HsR := hide (Hs (a * b % O6))
  have h0 := ((((on_all w).alloc (.cells (q4 a) 58)).alloc (.cells (q4 b) 58)).alloc (.cells (q4 0) 58)).alloc (.cells (q8 0) 97)
  have hs0 := ((((Str.refl w).alloc (.cells (q4 a) 58)).alloc (.cells (q4 b) 58)).alloc (.cells (q4 0) 58)).alloc (.cells (q8 0) 97)
  simp only [World.size_alloc] at h0
  have H0 := hide h0
  have HS0 := hide hs0
  have HO := hide hO
  have Ha := hide ha
  have Hb := hide hb
  clear h0 hs0 hO ha hb Hs
  generalize hA : q4 a = A4 at *
  generalize hB : q4 b = B4 at *
  generalize hZ : q4 0 = Z4 at *
  generalize hZ8 : q8 0 = Z8 at *
  have HA := hide hA
  have HB := hide hB
  have HZ := hide hZ
  have HZ8 := hide hZ8
  clear hA hB hZ hZ8
  have gA := on_blk_mul H0.out.right.right.right
  have Hia : Hid (∀ (X : World) (k : Nat), k < 4 → (Instr.index 58 (.agg A4) (.int .i64 (k : Int))).run Tryd.prog X = .ok (lv (limb a k)) X) := hide fun X k hk => run_index_one X 58 22 4 A4 k (lv (limb a k)) .u64 hu hu6 (by kernel_rfl) hk (by rw [← HA.out]; exact lvs_get _ k _ (qs_get 4 a k hk))
  have Hib : Hid (∀ (X : World) (k : Nat), k < 4 → (Instr.index 58 (.agg B4) (.int .i64 (k : Int))).run Tryd.prog X = .ok (lv (limb b k)) X) := hide fun X k hk => run_index_one X 58 22 4 B4 k (lv (limb b k)) .u64 hu hu6 (by kernel_rfl) hk (by rw [← HB.out]; exact lvs_get _ k _ (qs_get 4 b k hk))
  go_enter Tryd.func42, Tryd.ntmps42
  go_wp2_with (refine wpList_load_row rfl _ _ rfl w.heap.size rfl _ A4 _ _ gA hu rfl HsA.out ?_)
  generalize (((w.alloc (.cells A4 58)).alloc (.cells B4 58)).alloc (.cells Z4 58)).alloc (.cells Z8 97) = w1 at *
  go_loopw [12] (fun i wr => ∃ k : Nat, k ≤ 4 ∧ i = .int .i64 k ∧ (blk (w.heap.size + 1 + 1 + 1) (.cells (q8 (pMul a b k)) 97 (0, 0)) * (blk (w.heap.size + 1 + 1) (.cells Z4 58 (0, 0)) * (blk (w.heap.size + 1) (.cells B4 58 (0, 0)) * (blk w.heap.size (.cells A4 58 (0, 0)) * all w)))).on wr ∧ Str w wr) (fun i _ => 4 - (intOf i).toNat)
  case atStart =>
    refine ⟨0, by omega, rfl, ?_, HS0.out⟩
    rw [pMul_0, HZ8.out]
    exact H0.out
  case round =>
    obtain ⟨k, hk, rfl, hX, hS2⟩ := hrel
    have HXk := hide hX
    have HSk := hide hS2
    clear hX hS2 H0 HS0 gA
    by_cases hlt : k < 4
    · have hia := Hia.out wr k hlt
      have gB := on_blk_mul HXk.out.right.right
      go_wp2_with (refine wpList_load_row rfl _ _ rfl (w.heap.size + 1) rfl _ B4 _ _ gB hu rfl HsB.out ?_)
      go_loopw [8, 17] (fun ov j wr => ∃ m : Nat, m ≤ 4 ∧ j = .int .i64 m ∧ ov = lv (oMul (pMul a b k) (limb a k) b k m) ∧ (blk (w.heap.size + 1 + 1 + 1) (.cells (lvs (wMid a b k m)) 97 (0, 0)) * (blk (w.heap.size + 1 + 1) (.cells Z4 58 (0, 0)) * (blk (w.heap.size + 1) (.cells B4 58 (0, 0)) * (blk w.heap.size (.cells A4 58 (0, 0)) * all w)))).on wr ∧ Str w wr) (fun _ j _ => 4 - (intOf j).toNat)
      case atStart =>
        refine ⟨0, by omega, rfl, by rw [oMul_0]; rfl, ?_, HSk.out⟩
        rw [wMid_0 a b k (by omega)]
        exact HXk.out
      case round =>
        obtain ⟨m, hm, rfl, rfl, hX, hS2⟩ := hrel
        have HXm := hide hX
        have HSm := hide hS2
        clear hX hS2 HXk HSk hia gB
        by_cases hlm : m < 4
        · have hib := Hib.out wr m hlm
          have hkm : k + m < 8 := by omega
          have hcell := (cell_of_row wr (w.heap.size + 1 + 1 + 1) (k + m) _ _ _ (on_blk_mul HXm.out)).trans (lvs_get _ _ _ (wMid_get a b k m hkm))
          have hfr := frozen_of_row wr (w.heap.size + 1 + 1 + 1) (k + m) _ _ (on_blk_mul HXm.out)
          have hset := SP.on.setCell (i := k + m) HXm.out (lv (limb (uMul (pMul a b k) (limb a k) b k (m + 1)) (k + m)))
          rw [lvs_set, wMid_set a b k m hkm] at hset
          have HN := hide hset
          have Hg := hide (fun X => grown_any (limb a k) (limb b m) (limb (pMul a b k) (k + m)) (oMul (pMul a b k) (limb a k) b k m) (limb_lt _ _) (limb_lt _ _) (limb_lt _ _) (oMul_lt _ _ _ _ _ (limb_lt _ _)) X)
          rw [← oMul_step, ← uMul_limb] at Hg
          have hm4 : (m : Int) < 4 := by omega
          have s1 : IntKind.i64.wrap ((k : Int) + (m : Int)) = ((k + m : Nat) : Int) := by rw [IntWalk.i64_in _ (by omega)]; omega
          have hkm8 : ((k + m : Nat) : Int) < 8 := by omega
          clear hset HXm
          generalize limb a k = x at *
          generalize limb b m = y at *
          generalize limb (pMul a b k) (k + m) = c at *
          generalize oMul (pMul a b k) x b k m = d at *
          generalize limb (uMul (pMul a b k) x b k (m + 1)) (k + m) = lo at *
          generalize hhi : oMul (pMul a b k) x b k (m + 1) = hi at *
          have Hhi := hide hhi
          clear hhi
          go_wp2_with fail
          refine (Hg.out _).mono ?_
          rintro e w' ⟨rfl, rfl⟩
          go_wp2_with fail
          refine ⟨⟨m + 1, by omega, by simp, by rw [Hhi.out], HN.out, HSm.out.setCell _ _⟩, by simp [intOf]; omega⟩
        · obtain rfl : m = 4 := by omega
          have hk8 : k + 4 < 8 := by omega
          have hwl := wMid_len a b k 4 (by omega)
          obtain ⟨old, hcell⟩ : ∃ v, wr.cell? ⟨w.heap.size + 1 + 1 + 1, k + 4, Option.none⟩ = some v := ⟨_, (cell_of_row wr (w.heap.size + 1 + 1 + 1) (k + 4) _ _ _ (on_blk_mul HXm.out)).trans (lvs_get _ (k + 4) (wMid a b k 4)[k + 4] (List.getElem?_eq_getElem (by omega)))⟩
          have hfr := frozen_of_row wr (w.heap.size + 1 + 1 + 1) (k + 4) _ _ (on_blk_mul HXm.out)
          have hset := SP.on.setCell (i := k + 4) HXm.out (lv (oMul (pMul a b k) (limb a k) b k 4))
          rw [lvs_set, wMid_4 a b k hlt Hb.out] at hset
          have HN := hide hset
          have s1 : IntKind.i64.wrap ((k : Int) + 4) = ((k + 4 : Nat) : Int) := by rw [IntWalk.i64_in _ (by omega)]; omega
          have hkm8 : ((k + 4 : Nat) : Int) < 8 := by omega
          clear hset HXm hwl
          generalize oMul (pMul a b k) (limb a k) b k 4 = d at *
          go_wp2_with fail
          refine ⟨⟨k + 1, by omega, by simp, HN.out, HSm.out.setCell _ _⟩, by simp [intOf]; omega⟩
    · obtain rfl : k = 4 := by omega
      have hp : pMul a b 4 = a * b := by unfold pMul; rw [Nat.mod_eq_of_lt Ha.out]
      rw [hp] at HXk
      have Hlt8 := hide (show a * b < 18446744073709551616 ^ 8 by rw [show 8 = 4 + 4 from rfl, Nat.pow_add]; exact Nat.mul_lt_mul'' Ha.out Hb.out)
      have hBw := all_below HXk.out.right.right.right.right HSk.out
      have HBw := hide hBw
      have HO2 := hide (HO.out.below hBw)
      have g8 := on_blk_mul HXk.out
      have hl8 : Lay wr (some ⟨w.heap.size + 1 + 1 + 1, 0, Option.none⟩) ((qs 8 (a * b)).map lv) := fun j v hv => ⟨_, _, rfl, by rw [Nat.zero_add, cell_of_row wr _ j _ _ _ g8]; simpa [lvs] using hv⟩
      have hby := bytesOf_any (some ⟨w.heap.size + 1 + 1 + 1, 0, Option.none⟩) 8 (qs 8 (a * b)) wr hl8 (by rw [qs_len]; omega) (by omega) (by rw [qs_len]; omega)
      rw [qs_len] at hby
      have Hby := hide hby
      have hred : Hid (∀ v X, IsBytes X v (wbs (qs 8 (a * b))) → TabO X → Calls Tryd.prog 46 #[v] X fun e w' => e = .returned (.agg (q4 (a * b % O6))) ∧ Below X.heap.size X w') := hide fun v X h1 h2 => by
        have := reduce_any v _ X h1 h2 (by rw [wbs_len, qs_len]; omega)
        rwa [leN_qs 8 _ Hlt8.out] at this
      have HRes := hide HXk.out.right.left
      clear hp hBw hl8 hby
      have gR := on_blk_mul HXk.out.right
      have hszR : w.heap.size + 1 + 1 < wr.heap.size := (Array.getElem?_eq_some_iff.1 gR).1
      have hone : (q4 (a * b % O6)).all (·.oneCell') = true := lvs_one _
      have hza : Z4.size = (q4 (a * b % O6)).size := by rw [← HZ.out, q4_size, q4_size]
      go_wp2_with fail
      refine Hby.out.mono ?_
      rintro e w2 ⟨v, rfl, ho, hs⟩
      have hB2 : Below wr.heap.size wr w2 := Makes.below (Q := fun v => ownB6 v (wbs (qs 8 (a * b)))) ho hs
      have HB2 := hide hB2
      have Hv := hide (own_bytes ho)
      clear ho hs hB2
      go_wp2_with fail
      refine (hred.out v w2 Hv.out (HO2.out.below HB2.out)).mono ?_
      rintro e w3 ⟨rfl, hB3⟩
      have HB3 := hide (HB2.out.trans (hB3.mono HB2.out.size))
      have gR3 := (HB3.out.block _ hszR).trans gR
      have HBw3 := hide (HBw.out.trans (HB3.out.mono (by have := HBw.out.size; omega)))
      clear hB3 gR HRes HXk
      generalize hR4 : q4 (a * b % O6) = R4 at *
      have HR4 := hide hR4
      clear hR4
      go_wp2_with (refine wpList_store_row rfl _ _ _ rfl (w.heap.size + 1 + 1) R4 rfl rfl _ _ gR3 HsR.out hza hone ?_)
      refine bodyPost_ret (v := .agg R4) (results_cell_row Tryd.results42 _ _ (w.heap.size + 1 + 1) _ R4 (0, 0) _ rfl (setRow_heap_same _ _ _ _ _ _ gR3) hu rfl HsR.out) rfl ⟨by rw [HR4.out], below_setRow HBw3.out (by omega) _⟩
end Go.Proofs.YtgkofpfjbjnhfaaDoor
