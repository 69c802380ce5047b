/- scalar: the sum. -/
import Derived.Test.YtgkofpfjbjnhfaaDoorSc9
namespace Go.Proofs.YtgkofpfjbjnhfaaDoor
open Go.ChangeShapes Go.WideShapes Go.ChangeAt Go.RowKit
set_option linter.unusedVariables false
set_option linter.unusedSimpArgs false

abbrev q5 (n : Nat) : Array Value := lvs (qs 5 n)
/-- the words of a sum under way, and the carry -/
def sMid (a b k c : Nat) : List Nat := (qs 4 (a + b)).take k ++ (List.replicate 4 0).drop k ++ [c]
theorem sMid_len (a b k c : Nat) (h : k ≤ 4) : (sMid a b k c).length = 5 := by
  unfold sMid
  rw [List.length_append, part_len _ (qs_len 4 _) k h]; rfl
theorem sMid_4 (a b k c : Nat) (h : k ≤ 4) : (sMid a b k c)[4]? = some c := by
  unfold sMid
  rw [List.getElem?_append_right (by rw [part_len _ (qs_len 4 _) k h]; exact Nat.le_refl 4), part_len _ (qs_len 4 _) k h]; rfl
theorem sMid_set (a b k c : Nat) (h : k < 4) : (sMid a b k c).set k (limb (a + b) k) = sMid a b (k + 1) c := by
  unfold sMid
  rw [List.set_append_left _ _ (by rw [part_len _ (qs_len 4 _) k (by omega)]; exact h), set_takeN _ _ k _ (qs_get 4 _ k h) (by simp; omega)]
theorem sMid_carry (a b k c d : Nat) (h : k ≤ 4) : (sMid a b k c).set 4 d = sMid a b k d := by
  unfold sMid
  rw [List.set_append_right _ _ (by rw [part_len _ (qs_len 4 _) k h]; exact Nat.le_refl 4), part_len _ (qs_len 4 _) k h]; rfl
theorem sMid_end (a b : Nat) (ha : a < 18446744073709551616 ^ 4) (hb : b < 18446744073709551616 ^ 4) : sMid a b 4 (cAdd a b 4) = qs 5 (a + b) := by
  unfold sMid
  rw [List.take_of_length_le (by rw [qs_len]; omega), show (List.replicate 4 0).drop 4 = ([] : List Nat) from rfl, List.append_nil]
  have e : qs 5 (a + b) = qs 4 (a + b) ++ [limb (a + b) 4] := by
    unfold qs
    rw [List.range_succ, List.map_append]; rfl
  have h1 : a + b < 18446744073709551616 ^ (4 + 1) := by simp only [Nat.reducePow, Nat.reduceAdd] at *; omega
  rw [e, limb_top _ _ h1]
  unfold cAdd
  rw [Nat.mod_eq_of_lt ha, Nat.mod_eq_of_lt hb]
theorem sMid_0 (a b : Nat) : lvs (sMid a b 0 (cAdd a b 0)) = q5 0 := by
  rw [cAdd_0]; unfold sMid
  rw [show (qs 4 (a + b)).take 0 ++ (List.replicate 4 0).drop 0 ++ [0] = qs 5 0 by rw [show qs 5 0 = [0, 0, 0, 0, 0] by decide]; rfl]

set_option maxRecDepth 100000 in
set_option maxHeartbeats 8000000 in
theorem add_any (a b : Nat) (ha : a < 18446744073709551616 ^ 4) (hb : b < 18446744073709551616 ^ 4) (w : World) (hO : TabO w) :
    Calls Tryd.prog 40 #[.agg (q4 a), .agg (q4 b)] w fun e w' => e = .returned (.agg (q4 ((a + b) % O6))) ∧ Below w.heap.size w w' := by
  have hu := Tryd.underlying58
  have hu6 := Tryd.underlying22
  have hu5 := Tryd.underlying92
  have hz : ∀ w, (zeroValue 58).run Tryd.prog w = .ok (.agg (q4 0)) w := fun w => by rw [qz4]; kernel_rfl
  have hz5 : ∀ w, (zeroValue 92).run Tryd.prog w = .ok (.agg (q5 0)) w := fun w => by kernel_rfl
  have Hs : ∀ n, (Tryd.prog.info? 58).map (·.size) = some (q4 n).size := fun n => by rw [q4_size]; kernel_rfl
  have hs8 : (Tryd.prog.info? 22).map (·.size) = some 1 := by kernel_rfl
  have HsR := hide (Hs ((a + b) % O6))
  have h0 := ((((on_all w).alloc (.cells (q4 a) 58)).alloc (.cells (q4 b) 58)).alloc (.cells (q4 0) 58)).alloc (.cells (q5 0) 92)
  have hs0 := ((((Str.refl w).alloc (.cells (q4 a) 58)).alloc (.cells (q4 b) 58)).alloc (.cells (q4 0) 58)).alloc (.cells (q5 0) 92)
  simp only [World.size_alloc] at h0
  have H0 := hide h0
  have HS0 := hide hs0
  have HO := hide hO
  have Ha := hide ha
  have Hb := hide hb
  clear h0 hs0 hO ha hb Hs
  generalize hA : q4 a = A4 at *
  generalize hB : q4 b = B4 at *
  generalize hZ : q4 0 = Z4 at *
  generalize hZ5 : q5 0 = Z5 at *
  have HA := hide hA
  have HB := hide hB
  have HZ := hide hZ
  have HZ5 := hide hZ5
  clear hA hB hZ hZ5
  go_enter Tryd.func40, Tryd.ntmps40
  go_wp2_with fail
  generalize (((w.alloc (.cells A4 58)).alloc (.cells B4 58)).alloc (.cells Z4 58)).alloc (.cells Z5 92) = w1 at *
  go_loopw [7] (fun i wr => ∃ k : Nat, k ≤ 4 ∧ i = .int .i64 k ∧ (blk (w.heap.size + 1 + 1 + 1) (.cells (lvs (sMid a b k (cAdd a b k))) 92 (0, 0)) * (blk (w.heap.size + 1 + 1) (.cells Z4 58 (0, 0)) * (blk (w.heap.size + 1) (.cells B4 58 (0, 0)) * (blk w.heap.size (.cells A4 58 (0, 0)) * all w)))).on wr ∧ Str w wr) (fun i _ => 4 - (intOf i).toNat)
  case atStart =>
    refine ⟨0, by omega, rfl, ?_, HS0.out⟩
    rw [sMid_0, HZ5.out]
    exact H0.out
  case round =>
    obtain ⟨k, hk, rfl, hX, hS2⟩ := hrel
    have HXk := hide hX
    have HSk := hide hS2
    clear hX hS2 H0 HS0
    by_cases hlt : k < 4
    · have HcA : Hid (∀ X, (blk w.heap.size (.cells A4 58 (0, 0)) * all w).on X → X.cell? ⟨w.heap.size, k, Option.none⟩ = some (lv (limb a k))) := hide fun X hX => by rw [cell_of_row X w.heap.size k A4 _ _ (on_blk_mul hX), ← HA.out]; exact lvs_get _ k (limb a k) (qs_get 4 a k hlt)
      have HcB : Hid (∀ X, (blk (w.heap.size + 1) (.cells B4 58 (0, 0)) * (blk w.heap.size (.cells A4 58 (0, 0)) * all w)).on X → X.cell? ⟨w.heap.size + 1, k, Option.none⟩ = some (lv (limb b k))) := hide fun X hX => by rw [cell_of_row X (w.heap.size + 1) k B4 _ _ (on_blk_mul hX), ← HB.out]; exact lvs_get _ k (limb b k) (qs_get 4 b k hlt)
      have hcall := fun X => add64_run (limb a k) (limb b k) (cAdd a b k) (cAdd_le _ _ _) X
      rw [← cAdd_limb, ← cAdd_step] at hcall
      have Hcall := hide hcall
      have h4 := lvs_get _ 4 _ (sMid_4 a b k (cAdd a b k) hk)
      have hl5 := sMid_len a b k (cAdd a b k) hk
      have hset1 := sMid_set a b k (cAdd a b k) hlt
      have hset2 := sMid_carry a b (k + 1) (cAdd a b k) (cAdd a b (k + 1)) (by omega)
      obtain ⟨P1, hP1⟩ : ∃ P1, P1 = lvs (sMid a b k (cAdd a b k)) := ⟨_, rfl⟩
      obtain ⟨P2, hP2⟩ : ∃ P2, P2 = lvs (sMid a b (k + 1) (cAdd a b k)) := ⟨_, rfl⟩
      obtain ⟨P3, hP3⟩ : ∃ P3, P3 = lvs (sMid a b (k + 1) (cAdd a b (k + 1))) := ⟨_, rfl⟩
      have HP3 := hide hP3
      have Hp2 := hide (show P1.setIfInBounds k (lv (limb (a + b) k)) = P2 by rw [hP1, hP2, lvs_set, hset1])
      have Hp3 := hide (show P2.setIfInBounds 4 (lv (cAdd a b (k + 1))) = P3 by rw [hP3, hP2, lvs_set, hset2])
      have Hps := hide (show P1.size = 5 by rw [hP1, lvs_size]; exact hl5)
      have Hps2 := hide (show P2.size = 5 by rw [← Hp2.out, Array.size_setIfInBounds]; exact Hps.out)
      rw [← hP1] at h4 HXk
      have H4 := hide h4
      clear hcall h4 hl5 hset1 hset2 hP1 hP2 hP3
      generalize limb a k = x at *
      generalize limb b k = y at *
      generalize cAdd a b k = c at *
      generalize hhi : cAdd a b (k + 1) = hi at *
      have Hhi := hide hhi
      clear hhi
      generalize limb (a + b) k = lo at *
      have hk4 : (k : Int) < 4 := by omega
      have hk5 : (k : Int) < 5 := by omega
      go_wp2_with fail
      refine Multi.wp_region_multi [14, 16] [14, 16] [isV (.int .i64 (k : Int)), isV (.int .i64 (k : Int)), isV (.pointer (some ⟨w.heap.size, k, Option.none⟩)), isV (lv x), isV (.int .i64 (k : Int)), isV (.pointer (some ⟨w.heap.size + 1, k, Option.none⟩)), isV (lv y), isV (.pointer (some ⟨w.heap.size + 1 + 1 + 1, 4, Option.none⟩)), isV (lv c), isV (.tuple #[lv lo, lv hi]), isV (.tuple #[lv lo, lv hi]), isV (lv lo), isV (lv hi), isV (.pointer (some ⟨w.heap.size + 1 + 1 + 1, k, Option.none⟩)), (fun _ _ => True), isV (.pointer (some ⟨w.heap.size + 1 + 1 + 1, 4, Option.none⟩)), (fun _ _ => True)]
        (by kernel_rfl) (by kernel_rfl) (by kernel_rfl) ⟨rfl, rfl, trivial⟩ (fun f X => (blk (w.heap.size + 1 + 1 + 1) (.cells (if f 16 = true then P3 else if f 14 = true then P2 else P1) 92 (0, 0)) * (blk (w.heap.size + 1 + 1) (.cells Z4 58 (0, 0)) * (blk (w.heap.size + 1) (.cells B4 58 (0, 0)) * (blk w.heap.size (.cells A4 58 (0, 0)) * all w)))).on X ∧ Str w X) ⟨SP.on.drew HXk.out, Str.drew HSk.out⟩ (fun f a b h st => ⟨h.1.below st, h.2.trans (Str.below st)⟩) (fun f g X h hI => by rw [← h 14 rfl, ← h 16 rfl]; exact hI) ?keep ?todo ?rest (by decide)
      case keep => exact ⟨Keep.isV _, Keep.isV _, Keep.isV _, Keep.isV _, Keep.isV _, Keep.isV _, Keep.isV _, Keep.isV _, Keep.isV _, Keep.isV _, Keep.isV _, Keep.isV _, Keep.isV _, Keep.isV _, fun _ _ _ h _ => h, Keep.isV _, fun _ _ _ h _ => h, trivial⟩
      case todo =>
        refine ⟨?_, ?_, ?_, ?_, ?_, ?_, ?_, ?_, ?_, ?_, ?_, ?_, ?_, ?_, ?_, ?_, ?_, trivial⟩
        · intro f hf0 hw hn ev X hT hb hk hf
          have e0 : ev (.tmp 6) = .int .i64 (k : Int) := by have h9 := hk.1; rw [if_pos (by kernel_rfl)] at h9; exact h9
          exact OpOk.move rfl e0 (Multi.ended_stay rfl rfl (Stay.refl _))
        · intro f hf0 hw hn ev X hT hb hk hf
          have e0 : ev (.tmp 6) = .int .i64 (k : Int) := by have h9 := hk.1; rw [if_pos (by kernel_rfl)] at h9; exact h9
          exact OpOk.move rfl e0 (Multi.ended_stay rfl rfl (Stay.refl _))
        · intro f hf0 hw hn ev X hT hb hk hf
          have e0 : ev (.tmp 2) = .pointer (some ⟨w.heap.size, 0, Option.none⟩) := by have h9 := hk.1; rw [if_pos (by kernel_rfl)] at h9; exact h9
          have e1 : ev (.tmp 12) = .int .i64 (k : Int) := hf.1
          exact OpOk.run (v := .pointer (some ⟨w.heap.size, k, Option.none⟩)) (W' := X) (by simp [execOp, e0, e1, hb.1, hb.2.1, hb.2.2, hk4, hk5, go_sem]; try (intro h; omega)) (Multi.ended_stay rfl rfl (Stay.refl _))
        · intro f hf0 hw hn ev X hT hb hk hf
          have e0 : ev (.tmp 13) = .pointer (some ⟨w.heap.size, k, Option.none⟩) := hf.1
          have cW := HcA.out X hT.1.right.right.right
          exact OpOk.run (v := lv x) (W' := X) (by simp [execOp, e0, cW, go_sem]) (Multi.ended_stay rfl rfl (Stay.refl _))
        · intro f hf0 hw hn ev X hT hb hk hf
          have e0 : ev (.tmp 6) = .int .i64 (k : Int) := by have h9 := hk.1; rw [if_pos (by kernel_rfl)] at h9; exact h9
          exact OpOk.move rfl e0 (Multi.ended_stay rfl rfl (Stay.refl _))
        · intro f hf0 hw hn ev X hT hb hk hf
          have e0 : ev (.tmp 3) = .pointer (some ⟨w.heap.size + 1, 0, Option.none⟩) := by have h9 := hk.1; rw [if_pos (by kernel_rfl)] at h9; exact h9
          have e1 : ev (.tmp 15) = .int .i64 (k : Int) := hf.1
          exact OpOk.run (v := .pointer (some ⟨w.heap.size + 1, k, Option.none⟩)) (W' := X) (by simp [execOp, e0, e1, hb.1, hb.2.1, hb.2.2, hk4, hk5, go_sem]; try (intro h; omega)) (Multi.ended_stay rfl rfl (Stay.refl _))
        · intro f hf0 hw hn ev X hT hb hk hf
          have e0 : ev (.tmp 16) = .pointer (some ⟨w.heap.size + 1, k, Option.none⟩) := hf.1
          have cW := HcB.out X hT.1.right.right
          exact OpOk.run (v := lv y) (W' := X) (by simp [execOp, e0, cW, go_sem]) (Multi.ended_stay rfl rfl (Stay.refl _))
        · intro f hf0 hw hn ev X hT hb hk hf
          have e0 : ev (.tmp 5) = .pointer (some ⟨w.heap.size + 1 + 1 + 1, 0, Option.none⟩) := by have h9 := hk.1; rw [if_pos (by kernel_rfl)] at h9; exact h9
          exact OpOk.run (v := .pointer (some ⟨w.heap.size + 1 + 1 + 1, 4, Option.none⟩)) (W' := X) (by simp [execOp, e0, hb.1, hb.2.1, hb.2.2, hk4, hk5, go_sem]; try (intro h; omega)) (Multi.ended_stay rfl rfl (Stay.refl _))
        · intro f hf0 hw hn ev X hT hb hk hf
          have e0 : ev (.tmp 18) = .pointer (some ⟨w.heap.size + 1 + 1 + 1, 4, Option.none⟩) := hf.1
          have f16 : f 16 = false := hn 16 (by kernel_rfl)
          have f14 : f 14 = false := hn 14 (by kernel_rfl)
          have hX := hT.1
          rw [f16, f14, if_neg (by decide), if_neg (by decide)] at hX
          have cW := (cell_of_row X (w.heap.size + 1 + 1 + 1) 4 _ _ _ (on_blk_mul hX)).trans H4.out
          exact OpOk.run (v := lv c) (W' := X) (by simp [execOp, e0, cW, go_sem]) (Multi.ended_stay rfl rfl (Stay.refl _))
        · intro f hf0 hw hn ev X hT hb hk hf
          have e0 : ev (.tmp 14) = lv x := hf.1
          have e1 : ev (.tmp 17) = lv y := hf.2.1
          have e2 : ev (.tmp 19) = lv c := hf.2.2.1
          exact OpOk.run (v := .tuple #[lv lo, lv hi]) (W' := X) (by have h9 := Hcall.out X; simp [execOp, resolve, invoke, e0, e1, e2, hb.1, hb.2.1, h9, go_sem]) (Multi.ended_stay rfl rfl (Stay.refl _))
        · intro f hf0 hw hn ev X hT hb hk hf
          have e0 : ev (.tmp 20) = .tuple #[lv lo, lv hi] := hf.1
          exact OpOk.move rfl e0 (Multi.ended_stay rfl rfl (Stay.refl _))
        · intro f hf0 hw hn ev X hT hb hk hf
          have e0 : ev (.tmp 10) = .tuple #[lv lo, lv hi] := hf.1
          exact OpOk.run (v := lv lo) (W' := X) (by simp [execOp, e0, hb.1, go_sem]) (Multi.ended_stay rfl rfl (Stay.refl _))
        · intro f hf0 hw hn ev X hT hb hk hf
          have e0 : ev (.tmp 10) = .tuple #[lv lo, lv hi] := hf.1
          exact OpOk.run (v := lv hi) (W' := X) (by simp [execOp, e0, hb.1, go_sem]) (Multi.ended_stay rfl rfl (Stay.refl _))
        · intro f hf0 hw hn ev X hT hb hk hf
          have e0 : ev (.tmp 5) = .pointer (some ⟨w.heap.size + 1 + 1 + 1, 0, Option.none⟩) := by have h9 := hk.1; rw [if_pos (by kernel_rfl)] at h9; exact h9
          have e1 : ev (.tmp 11) = .int .i64 (k : Int) := hf.1
          exact OpOk.run (v := .pointer (some ⟨w.heap.size + 1 + 1 + 1, k, Option.none⟩)) (W' := X) (by simp [execOp, e0, e1, hb.1, hb.2.1, hb.2.2, hk4, hk5, go_sem]; try (intro h; omega)) (Multi.ended_stay rfl rfl (Stay.refl _))
        · intro f hf0 hw hn ev X hT hb hk hf
          have e0 : ev (.tmp 23) = .pointer (some ⟨w.heap.size + 1 + 1 + 1, k, Option.none⟩) := hf.1
          have e1 : ev (.tmp 21) = lv lo := hf.2.1
          have f16 : f 16 = false := hn 16 (by kernel_rfl)
          rw [f16, hf0, if_neg (by decide), if_neg (by decide)] at hT
          have hX := hT.1
          exact OpOk.store_one _ _ _ rfl (w.heap.size + 1 + 1 + 1) k (lv lo) e0 e1 rfl _ P1 hX hs8 (by rw [Hps.out]; omega) rfl P2 Hp2.out (fun h3 => Multi.ended_turn rfl trivial ⟨by simp only [f16]; exact h3, hT.2.setRow _ _⟩ (Multi.free_keep (by
            intro P hP
            simp only [List.mem_cons, List.not_mem_nil, or_false] at hP
            rcases hP with rfl | rfl | rfl | rfl | rfl | rfl | rfl | rfl | rfl | rfl | rfl | rfl | rfl | rfl | rfl | rfl | rfl <;> exact fun _ _ _ h => h) _ _))
        · intro f hf0 hw hn ev X hT hb hk hf
          have e0 : ev (.tmp 5) = .pointer (some ⟨w.heap.size + 1 + 1 + 1, 0, Option.none⟩) := by have h9 := hk.1; rw [if_pos (by kernel_rfl)] at h9; exact h9
          exact OpOk.run (v := .pointer (some ⟨w.heap.size + 1 + 1 + 1, 4, Option.none⟩)) (W' := X) (by simp [execOp, e0, hb.1, hb.2.1, hb.2.2, hk4, hk5, go_sem]; try (intro h; omega)) (Multi.ended_stay rfl rfl (Stay.refl _))
        · intro f hf0 hw hn ev X hT hb hk hf
          have e0 : ev (.tmp 24) = .pointer (some ⟨w.heap.size + 1 + 1 + 1, 4, Option.none⟩) := hf.1
          have e1 : ev (.tmp 22) = lv hi := hf.2.1
          have f14 : f 14 = true := hw 14 (by kernel_rfl)
          rw [f14, hf0, if_neg (by decide), if_pos rfl] at hT
          have hX := hT.1
          exact OpOk.store_one _ _ _ rfl (w.heap.size + 1 + 1 + 1) 4 (lv hi) e0 e1 rfl _ P2 hX hs8 (by rw [Hps2.out]; omega) rfl P3 Hp3.out (fun h3 => Multi.ended_turn rfl trivial ⟨by simp only; exact h3, hT.2.setRow _ _⟩ (Multi.free_keep (by
            intro P hP
            simp only [List.mem_cons, List.not_mem_nil, or_false] at hP
            rcases hP with rfl | rfl | rfl | rfl | rfl | rfl | rfl | rfl | rfl | rfl | rfl | rfl | rfl | rfl | rfl | rfl | rfl <;> exact fun _ _ _ h => h) _ _))
      case rest =>
        intro X hT
        rintro _ rfl _ rfl _ rfl _ rfl _ rfl _ rfl _ rfl _ rfl _ rfl _ rfl _ rfl _ rfl _ rfl _ rfl _ - _ rfl _ -
        rw [if_pos rfl] at hT
        have HX2 := hide hT.1
        have HST := hide hT.2
        clear hT
        go_wp2
        refine Rest.done ?_
        go_wp2_with fail
        refine ⟨⟨k + 1, by omega, by simp, by rw [Hhi.out, ← HP3.out]; exact HX2.out, HST.out⟩, by simp [intOf]; omega⟩
    · obtain rfl : k = 4 := by omega
      rw [sMid_end a b Ha.out Hb.out] at HXk
      have Hlt8 := hide (show a + b < 18446744073709551616 ^ 5 by have h1 := Ha.out; have h2 := Hb.out; simp only [Nat.reducePow] at *; omega)
      have hBw := all_below HXk.out.right.right.right.right HSk.out
      have HBw := hide hBw
      have HO2 := hide (HO.out.below hBw)
      have g8 := on_blk_mul HXk.out
      have hl8 : Lay wr (some ⟨w.heap.size + 1 + 1 + 1, 0, Option.none⟩) ((qs 5 (a + b)).map lv) := fun j v hv => ⟨_, _, rfl, by rw [Nat.zero_add, cell_of_row wr _ j _ _ _ g8]; simpa [lvs] using hv⟩
      have hby := bytesOf_any (some ⟨w.heap.size + 1 + 1 + 1, 0, Option.none⟩) 5 (qs 5 (a + b)) wr hl8 (by rw [qs_len]; omega) (by omega) (by rw [qs_len]; omega)
      rw [qs_len] at hby
      have Hby := hide hby
      have hred : Hid (∀ v X, IsBytes X v (wbs (qs 5 (a + b))) → TabO X → Calls Tryd.prog 46 #[v] X fun e w' => e = .returned (.agg (q4 ((a + b) % O6))) ∧ Below X.heap.size X w') := hide fun v X h1 h2 => by
        have := reduce_any v _ X h1 h2 (by rw [wbs_len, qs_len]; omega)
        rwa [leN_qs 5 _ Hlt8.out] at this
      clear hBw hl8 hby g8
      have gR := on_blk_mul HXk.out.right
      have hszR : w.heap.size + 1 + 1 < wr.heap.size := (Array.getElem?_eq_some_iff.1 gR).1
      have hone : (q4 ((a + b) % O6)).all (·.oneCell') = true := lvs_one _
      have hza : Z4.size = (q4 ((a + b) % O6)).size := by rw [← HZ.out, q4_size, q4_size]
      go_wp2_with fail
      refine Hby.out.mono ?_
      rintro e w2 ⟨v, rfl, ho, hs⟩
      have hB2 : Below wr.heap.size wr w2 := Makes.below (Q := fun v => ownB6 v (wbs (qs 5 (a + b)))) ho hs
      have HB2 := hide hB2
      have Hv := hide (own_bytes ho)
      clear ho hs hB2
      go_wp2_with fail
      refine (hred.out v w2 Hv.out (HO2.out.below HB2.out)).mono ?_
      rintro e w3 ⟨rfl, hB3⟩
      have HB3 := hide (HB2.out.trans (hB3.mono HB2.out.size))
      have gR3 := (HB3.out.block _ hszR).trans gR
      have HBw3 := hide (HBw.out.trans (HB3.out.mono (by have := HBw.out.size; omega)))
      clear hB3 gR HXk
      generalize hR4 : q4 ((a + b) % O6) = R4 at *
      have HR4 := hide hR4
      clear hR4
      go_wp2_with (refine wpList_store_row rfl _ _ _ rfl (w.heap.size + 1 + 1) R4 rfl rfl _ _ gR3 HsR.out hza hone ?_)
      refine bodyPost_ret (v := .agg R4) (results_cell_row Tryd.results40 _ _ (w.heap.size + 1 + 1) _ R4 (0, 0) _ rfl (setRow_heap_same _ _ _ _ _ _ gR3) hu rfl HsR.out) rfl ⟨by rw [HR4.out], below_setRow HBw3.out (by omega) _⟩
end Go.Proofs.YtgkofpfjbjnhfaaDoor
