/- the document's numbers: of words; the law's numbers of both kinds. -/
import Derived.Test.YtgkofpfjbjnhfaaDoorFe13
namespace Go.Proofs.YtgkofpfjbjnhfaaDoor
namespace Fe
open Go.ChangeShapes Go.WideShapes Go.ChangeAt Go.RowKit
set_option linter.unusedVariables false
set_option linter.unusedSimpArgs false

set_option maxRecDepth 100000 in
set_option maxHeartbeats 4000000 in
theorem fromlimbs_any (n : Nat) (hn : n < 18446744073709551616 ^ 4) (w : World) :
    Calls Tryd.prog 32 #[.agg (q4 n)] w fun e w' => e = .returned (.agg (n17 (n % P5))) ∧ Below w.heap.size w w' := by
  have hu := Tryd.underlying23
  have hu6 := Tryd.underlying22
  have hu8 := Tryd.underlying5
  have hu32 := Tryd.underlying48
  have hz : ∀ w, (zeroValue 48).run Tryd.prog w = .ok (.agg (zb (List.replicate 32 0))) w := fun w => by kernel_rfl
  have hlen := wbs_len (qs 4 n)
  rw [qs_len] at hlen
  have h0 := (((on_all w).alloc (.cells (q4 n) 23)).alloc (.cells (n17 0) 27)).alloc (.cells (zb (List.replicate 32 0)) 48)
  have hs0 := (((Str.refl w).alloc (.cells (q4 n) 23)).alloc (.cells (n17 0) 27)).alloc (.cells (zb (List.replicate 32 0)) 48)
  simp only [World.size_alloc] at h0
  have H0 := hide h0
  have HS0 := hide hs0
  have Hlen := hide hlen
  have HsR : Hid ((Tryd.prog.info? 48).map (·.size) = some (zb (wbs (qs 4 n))).size) := hide (by rw [show (zb (wbs (qs 4 n))).size = 32 by simp [zb, vbs, hlen]]; kernel_rfl)
  have Hza : Hid ((zb (List.replicate 32 0)).size = (zb (wbs (qs 4 n))).size) := hide (by rw [show (zb (wbs (qs 4 n))).size = 32 by simp [zb, vbs, hlen]]; rfl)
  have Hone : Hid ((zb (wbs (qs 4 n))).all (·.oneCell') = true) := hide (vba _)
  clear h0 hs0
  have hun := Tryd.underlying27
  have hzn := nZero
  have hleN : leN (wbs (qs 4 n)) = n := leN_qs 4 n hn
  have hB4 := p255
  have h255 := P5_255
  have hlow : n % 2 ^ 255 < 2 ^ 255 := Nat.mod_lt _ (by decide)
  have hsplit := Nat.mod_add_div n (2 ^ 255)
  have Hfb : Hid (∀ X, Calls Tryd.prog 34 #[.agg (zb (wbs (qs 4 n)))] X fun e w' => e = .returned (.tuple #[.agg (n17 (n % 2 ^ 255)), .bool (decide (2 ^ 255 ≤ n))]) ∧ Below X.heap.size X w') := hide fun X => by
    have := frombytes_any (wbs (qs 4 n)) hlen X
    rwa [hleN] at this
  have Hset : Hid (∀ X, Calls Tryd.prog 56 #[.agg (n17 (n % 2 ^ 255))] X fun e w' => e = .returned (.agg (n17 (n % 2 ^ 255 % P5))) ∧ Below X.heap.size X w') := hide fun X => by
    have := settle_any (ds 17 (n % 2 ^ 255)) (ds_len _ _) (fun x hx => by have := ds_lt _ _ x hx; omega) X
    rwa [dval_ds, D17, Nat.mod_mod] at this
  have Hsm : Hid (∀ X, Calls Tryd.prog 23 #[.int .i64 19] X fun e w' => e = .returned (.agg (n17 19)) ∧ Below X.heap.size X w') := hide fun X => by
    have := rsmall_any 19 (by decide) X
    rwa [show 19 % P5 = 19 by decide] at this
  have hmp : n % 2 ^ 255 % P5 < P5 := Nat.mod_lt _ P5_pos
  have Hadd : Hid (2 ^ 255 ≤ n → ∀ X, Calls Tryd.prog 14 #[.agg (n17 (n % 2 ^ 255 % P5)), .agg (n17 19)] X fun e w' => e = .returned (.agg (n17 (n % P5))) ∧ Below X.heap.size X w') := hide fun h X => by
    have := radd_any (n % 2 ^ 255 % P5) 19 (by omega) (by decide) X
    rwa [Nat.mod_add_mod, show (n % 2 ^ 255 + 19) % P5 = n % P5 by
      have h1 : n / 2 ^ 255 = 1 := by
        refine Nat.div_eq_of_lt_le (by omega) (by omega)
      rw [h1, Nat.mul_one] at hsplit
      rw [show n = (n % 2 ^ 255 + 19) + P5 by omega, Nat.add_mod_right, ← show n = (n % 2 ^ 255 + 19) + P5 by omega]] at this
  have Hlowc : Hid (¬ 2 ^ 255 ≤ n → n % 2 ^ 255 % P5 = n % P5) := hide fun h => by rw [Nat.mod_eq_of_lt (a := n) (b := 2 ^ 255) (by omega)]
  have HsLn := hide (nInfo (n % 2 ^ 255))
  have HoLn := hide (nOne (n % 2 ^ 255))
  have HzLn := hide (nSize 0 (n % 2 ^ 255))
  have HsRn := hide (nInfo (n % P5))
  have HoRn := hide (nOne (n % P5))
  have HzRn := hide (nSize 0 (n % P5))
  clear hleN hB4 h255 hlow hsplit hmp hn
  generalize hZn : n17 0 = Zn at *
  have HZn := hide hZn
  clear hZn
  generalize n17 (n % 2 ^ 255) = Ln at *
  generalize hA : q4 n = A4 at *
  generalize hZ : zb (List.replicate 32 0) = Z at *
  have HA := hide hA
  have HZ := hide hZ
  clear hA hZ hlen
  go_enter Tryd.func32, Tryd.ntmps32
  go_wp2_with fail
  generalize ((w.alloc (.cells A4 23)).alloc (.cells Zn 27)).alloc (.cells Z 48) = w1 at *
  go_loopw [4] (fun i wr => ∃ k : Nat, k ≤ 32 ∧ i = .int .i64 k ∧ (blk (w.heap.size + 1 + 1) (.cells (zb ((wbs (qs 4 n)).take k ++ (List.replicate 32 0).drop k)) 48 (0, 0)) * (blk (w.heap.size + 1) (.cells Zn 27 (0, 0)) * (blk w.heap.size (.cells A4 23 (0, 0)) * all w))).on wr ∧ Str w wr) (fun i _ => 32 - (intOf i).toNat)
  case atStart =>
    refine ⟨0, by omega, rfl, ?_, HS0.out⟩
    rw [List.take_zero, List.drop_zero, List.nil_append, HZ.out]
    exact H0.out
  case round =>
    obtain ⟨k, hk, rfl, hX, hS2⟩ := hrel
    have HXk := hide hX
    have HSk := hide hS2
    clear hX hS2 H0 HS0
    by_cases hlt : k < 32
    · have hq4 : k / 8 < 4 := by omega
      have hset := set_takeN (wbs (qs 4 n)) (List.replicate 32 0) k _ (wbs_qs_get 4 n k hq4) (by simp; omega)
      have hst := SP.on.setCell (i := k) HXk.out (vb (UInt8.ofNat (limb n (k / 8) / 2 ^ (8 * (k % 8)))))
      rw [show (zb ((wbs (qs 4 n)).take k ++ (List.replicate 32 0).drop k)).setIfInBounds k (vb (UInt8.ofNat (limb n (k / 8) / 2 ^ (8 * (k % 8))))) = zb (((wbs (qs 4 n)).take k ++ (List.replicate 32 0).drop k).set k (UInt8.ofNat (limb n (k / 8) / 2 ^ (8 * (k % 8))))) by unfold zb; rw [List.setIfInBounds_toArray, ← vbs_set], hset] at hst
      have HN := hide hst
      obtain ⟨old, hold⟩ : ∃ v, wr.cell? ⟨w.heap.size + 1 + 1, k, Option.none⟩ = some v := by
        have hl : k < ((wbs (qs 4 n)).take k ++ (List.replicate 32 0).drop k).length := by rw [List.length_append, List.length_take, List.length_drop, Hlen.out]; simp; omega
        exact ⟨_, (cell_of_row wr (w.heap.size + 1 + 1) k _ _ _ (on_blk_mul HXk.out)).trans (by unfold zb; rw [List.getElem?_toArray]; exact vbs_get _ k hl)⟩
      have hfr := frozen_of_row wr (w.heap.size + 1 + 1) k _ _ (on_blk_mul HXk.out)
      have hca := (cell_of_row wr w.heap.size (k / 8) A4 _ _ (on_blk_mul HXk.out.right.right)).trans (show A4[k / 8]? = some (lv (limb n (k / 8))) by rw [← HA.out]; exact lvs_get _ _ _ (qs_get 4 n _ hq4))
      have c1 : IntKind.i64.wrap ((k : Int) / 8) = ((k / 8 : Nat) : Int) := by rw [IntWalk.i64_in _ (by omega)]; omega
      have c2 : ((k : Int)).tmod 8 = ((k % 8 : Nat) : Int) := by rw [Int.tmod_eq_emod_of_nonneg (by omega)]; omega
      have c3 : IntKind.i64.wrap (8 * ((k % 8 : Nat) : Int)) = ((8 * (k % 8) : Nat) : Int) := by rw [IntWalk.i64_in _ (by omega)]; omega
      have q1 := wb_byte (limb n (k / 8)) (k % 8)
      have l1 := limb_lt n (k / 8)
      have hk4 : ((k / 8 : Nat) : Int) < 4 := by omega
      have hk32 : (k : Int) < 32 := by omega
      have h64 : 8 * (k % 8) < 64 := by omega
      rw [IntKind.wrap_u8] at q1
      have Q1 := hide q1
      clear hset hst q1 HXk
      generalize limb n (k / 8) = u at *
      generalize hbt : UInt8.ofNat (u / 2 ^ (8 * (k % 8))) = bt at *
      have Hbt := hide hbt
      clear hbt
      go_wp2_with fail
      rw [Q1.out]
      exact ⟨⟨k + 1, by omega, by simp, HN.out, HSk.out.setCell _ _⟩, by simp [intOf]; omega⟩
    · obtain rfl : k = 32 := by omega
      have e4 : (wbs (qs 4 n)).take 32 ++ (List.replicate 32 0).drop 32 = wbs (qs 4 n) := by rw [List.take_of_length_le (by rw [Hlen.out]; omega), List.drop_of_length_le (by simp), List.append_nil]
      rw [e4] at HXk
      have H2 := HXk
      have S2 := HSk
      have g0 := on_blk_mul H2.out
      have HsRb := HsR
      clear HXk HSk e4 Hza Hone HsR
      generalize zb (wbs (qs 4 n)) = R4 at *
      go_wp2_with (refine wpList_load_row rfl _ _ rfl (w.heap.size + 1 + 1) rfl _ R4 _ _ g0 hu32 rfl HsRb.out ?_)
      clear g0
      refine (Hfb.out _).mono ?_
      rintro e w3 ⟨rfl, hB⟩
      have H3 := hide (H2.out.below hB)
      have S3 := hide (S2.out.trans (Str.below hB))
      clear hB H2 S2
      have hN := H3.out.alloc (.cells Zn 27)
      have gN := on_blk_mul hN
      have hM := hN.setRow Ln
      have gM := on_blk_mul hM
      have H4 := hide hM
      have S4 := hide ((S3.out.alloc (.cells Zn 27)).setRow w3.heap.size Ln)
      clear hN hM
      by_cases hhi : 2 ^ 255 ≤ n
      · have HA := hide (Hadd.out hhi)
        rw [decide_eq_true hhi]
        clear hhi
        go_wp2_with (first
          | (refine wpList_store_row rfl _ _ _ rfl (w3.heap.size) Ln rfl rfl _ _ gN HsLn.out HzLn.out HoLn.out ?_)
          | (refine wpList_load_row rfl _ _ rfl (w3.heap.size) rfl _ Ln _ _ gM hun rfl HsLn.out ?_))
        generalize (w3.alloc (.cells Zn 27)).setRow w3.heap.size Ln = w4 at *
        clear gN gM H3 S3
        refine (Hset.out _).mono ?_
        rintro e w5 ⟨rfl, hB⟩
        have H5 := hide (H4.out.below hB)
        have S5 := hide (S4.out.trans (Str.below hB))
        clear hB H4 S4
        go_wp2_with fail
        refine (Hsm.out _).mono ?_
        rintro e w6 ⟨rfl, hB⟩
        have H6 := hide (H5.out.below hB)
        have S6 := hide (S5.out.trans (Str.below hB))
        clear hB H5 S5
        go_wp2_with fail
        refine (HA.out _).mono ?_
        rintro e w7 ⟨rfl, hB⟩
        have H7 := hide (H6.out.below hB)
        have S7 := hide (S6.out.trans (Str.below hB))
        clear hB H6 S6
        generalize hRn : n17 (n % P5) = Rn at *
        have HRn := hide hRn
        clear hRn
        have gR := on_blk_mul H7.out.right.right
        have HB := hide (all_below H7.out.right.right.right.right S7.out)
        go_wp2_with (first
          | (refine wpList_store_row rfl _ _ _ rfl (w.heap.size + 1) Rn rfl rfl _ _ gR HsRn.out HzRn.out HoRn.out ?_))
        exact bodyPost_ret (v := .agg Rn) (results_cell_row Tryd.results32 _ _ (w.heap.size + 1) _ Rn (0, 0) _ rfl (setRow_heap_same _ _ _ _ _ _ gR) hun rfl HsRn.out) rfl ⟨by rw [HRn.out], below_setRow HB.out (by omega) _⟩
      · have HQ := hide (Hlowc.out hhi)
        rw [HQ.out] at Hset
        rw [decide_eq_false hhi]
        clear hhi
        go_wp2_with (first
          | (refine wpList_store_row rfl _ _ _ rfl (w3.heap.size) Ln rfl rfl _ _ gN HsLn.out HzLn.out HoLn.out ?_)
          | (refine wpList_load_row rfl _ _ rfl (w3.heap.size) rfl _ Ln _ _ gM hun rfl HsLn.out ?_))
        generalize (w3.alloc (.cells Zn 27)).setRow w3.heap.size Ln = w4 at *
        clear gN gM H3 S3
        refine (Hset.out _).mono ?_
        rintro e w5 ⟨rfl, hB⟩
        have H5 := hide (H4.out.below hB)
        have S5 := hide (S4.out.trans (Str.below hB))
        clear hB H4 S4
        generalize hRn : n17 (n % P5) = Rn at *
        have HRn := hide hRn
        clear hRn
        have gR := on_blk_mul H5.out.right.right
        have HB := hide (all_below H5.out.right.right.right.right S5.out)
        go_wp2_with (first
          | (refine wpList_store_row rfl _ _ _ rfl (w.heap.size + 1) Rn rfl rfl _ _ gR HsRn.out HzRn.out HoRn.out ?_))
        exact bodyPost_ret (v := .agg Rn) (results_cell_row Tryd.results32 _ _ (w.heap.size + 1) _ Rn (0, 0) _ rfl (setRow_heap_same _ _ _ _ _ _ gR) hun rfl HsRn.out) rfl ⟨by rw [HRn.out], below_setRow HB.out (by omega) _⟩
end Fe
end Go.Proofs.YtgkofpfjbjnhfaaDoor
