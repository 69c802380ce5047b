/- the document's scalar: bytes modulo the order; the product; numbers as bytes. -/
import Derived.Test.YtgkofpfjbjnhfaaDoorRs4
namespace Go.Proofs.YtgkofpfjbjnhfaaDoor
open Go.ChangeShapes Go.WideShapes Go.ChangeAt Go.RowKit
set_option linter.unusedVariables false
set_option linter.unusedSimpArgs false

theorem pow_step (V k : Nat) : V / 2 ^ k = 2 * (V / 2 ^ (k + 1)) + V / 2 ^ k % 2 := by
  rw [Nat.pow_succ, ← Nat.div_div_eq_div_mul]; omega
theorem two_acc (V k : Nat) : (2 * (V / 2 ^ (k + 1) % O6) + V / 2 ^ k % 2) % O6 = V / 2 ^ k % O6 := by
  rw [two_mod, ← pow_step]

set_option maxRecDepth 100000 in
set_option maxHeartbeats 4000000 in
theorem rreduce_any (v : Value) (l : List UInt8) (w : World) (h : IsBytes w v l) (hl : l.length ≤ 100000) :
    Calls Tryd.prog 47 #[v] w fun e w' => e = .returned (.agg (q4 (leN l % O6))) ∧ Below w.heap.size w w' := by
  have hu := Tryd.underlying23
  have hui := Tryd.underlying3
  have hut := Tryd.underlying103
  have hz : ∀ w, (zeroValue 23).run Tryd.prog w = .ok (.agg (q4 0)) w := fun w => by rw [qz4]; kernel_rfl
  have Hs : Hid (∀ n, (Tryd.prog.info? 23).map (·.size) = some (q4 n).size) := hide fun n => by rw [q4_size]; kernel_rfl
  have hb0 := h.below ((Below.refl w.heap.size w).alloc (Nat.le_refl _) (.cells (q4 0) 23))
  have HBits := hide (rbits_any v l _ hb0 hl)
  have HB1 := hide ((Below.refl w.heap.size w).alloc (Nat.le_refl _) (.cells (q4 0) 23))
  have GR0 := hide (heap_alloc_new w (.cells (q4 0) 23))
  have hlR : w.heap.size < (w.alloc (.cells (q4 0) 23)).heap.size := by simp
  have HVlt := hide (leN_lt l)
  have Hbit := hide (leN_bit l)
  obtain ⟨V, hV⟩ : ∃ V, V = leN l := ⟨_, rfl⟩
  rw [← hV] at HVlt Hbit ⊢
  clear h hb0 hV
  generalize hZ : q4 0 = Z4 at *
  have HZ := hide hZ
  clear hZ
  go_enter Tryd.func47, Tryd.ntmps47
  go_wp2_with fail
  generalize w.alloc (.cells Z4 23) = w1 at *
  refine HBits.out.mono ?_
  rintro e w2 ⟨bv, rfl, ho, hs⟩
  have hB12 := Makes.below (Q := fun v => ownI v (bitsL l (8 * l.length))) ho hs
  have HB2 := hide (HB1.out.trans (hB12.mono HB1.out.size))
  have gR2 := (hB12.block _ hlR).trans GR0.out
  have hlR2 : w.heap.size < w2.heap.size := Nat.lt_of_lt_of_le hlR hB12.size
  obtain ⟨ba, bc, rfl, hbc1, hbc2, hlay, hnone⟩ := own_value ho
  rw [bitsL_len] at hbc1 ⊢
  have h0 := (on_all w2).alloc (.cells Z4 23)
  have hs0 := (Str.refl w2).alloc (.cells Z4 23)
  have H0 := hide h0
  have HS0 := hide hs0
  have HL := hide hlay
  have GR2 := hide gR2
  clear ho hs hB12 hlay h0 hs0 GR0 HBits gR2
  have s1 : IntKind.i64.wrap (((8 * l.length : Nat) : Int) - 1) = ((8 * l.length : Nat) : Int) - 1 := by rw [IntWalk.i64_in _ (by omega)]
  go_wp2_with fail
  generalize w2.alloc (.cells Z4 23) = w3 at *
  go_loopw [5] (fun i wr => ∃ k : Nat, k ≤ 8 * l.length ∧ i = .int .i64 ((k : Int) - 1) ∧ (blk w2.heap.size (.cells (q4 (V / 2 ^ k % O6)) 23 (0, 0)) * all w2).on wr ∧ Str w2 wr) (fun i _ => (intOf i + 1).toNat)
  case atStart =>
    refine ⟨8 * l.length, Nat.le_refl _, rfl, ?_, HS0.out⟩
    have e : V / 2 ^ (8 * l.length) = 0 := by
      apply Nat.div_eq_of_lt
      have := HVlt.out
      rwa [show (256 : Nat) = 2 ^ 8 from rfl, ← Nat.pow_mul] at this
    rw [e, Nat.zero_mod, HZ.out]
    exact H0.out
  case round =>
    obtain ⟨k, hk, rfl, hX, hS2⟩ := hrel
    have HXk := hide hX
    have HSk := hide hS2
    clear hX hS2 H0 HS0 s1
    cases k with
    | zero =>
      rw [Nat.pow_zero, Nat.div_one] at HXk
      have gA := on_blk_mul HXk.out
      have hBw := all_below HXk.out.right HSk.out
      have gR := (hBw.block _ hlR2).trans GR2.out
      have HBw := hide (HB2.out.trans (hBw.mono HB2.out.size))
      have HsR := hide (Hs.out (V % O6))
      have hone : (q4 (V % O6)).all (·.oneCell') = true := lvs_one _
      have hza : Z4.size = (q4 (V % O6)).size := by rw [← HZ.out, q4_size, q4_size]
      clear HXk hBw
      generalize hR4 : q4 (V % O6) = R4 at *
      have HR4 := hide hR4
      clear hR4
      go_wp2_with (first
        | (refine wpList_store_row rfl _ _ _ rfl w.heap.size R4 rfl rfl _ _ gR HsR.out hza hone ?_)
        | (refine wpList_load_row rfl _ _ rfl w2.heap.size rfl _ R4 _ _ gA hu rfl HsR.out ?_))
      refine bodyPost_ret (v := .agg R4) (results_cell_row Tryd.results47 _ _ w.heap.size _ R4 (0, 0) _ rfl (setRow_heap_same _ _ _ _ _ _ gR) hu rfl HsR.out) rfl ⟨by rw [HR4.out], below_setRow HBw.out (Nat.le_refl _) _⟩
    | succ k =>
      have hkl : k < 8 * l.length := by omega
      obtain ⟨bg, bo, rfl⟩ := Lay.isAddr HL.out k (by simpa [bitsL_len] using hkl)
      have GA := hide (on_blk_mul HXk.out)
      have lA : w2.heap.size < wr.drew.heap.size := (Array.getElem?_eq_some_iff.1 GA.out).1
      have HBw := hide (all_below HXk.out.right HSk.out)
      have Hcell : Hid (∀ X, Below w2.heap.size w2 X → X.cell? ⟨bg, bo + k, Option.none⟩ = some (iv (bitAt l k))) := hide fun X hX => Lay.cell (HL.out.below hX) k (by simp [bitsL_get l _ k hkl])
      have Hb1 := hide (bitAt_le l k)
      have Hnext := hide (show (2 * (V / 2 ^ (k + 1) % O6) + bitAt l k) % O6 = V / 2 ^ k % O6 by rw [← Hbit.out k hkl, two_acc])
      have hacc : V / 2 ^ (k + 1) % O6 < O6 := Nat.mod_lt _ (by decide)
      have Hacc := hide hacc
      have s1 : (((k + 1 : Nat) : Int) - 1) = (k : Int) := by omega
      rw [s1]
      clear s1 hacc
      generalize V / 2 ^ (k + 1) % O6 = A at *
      generalize bitAt l k = bb at *
      generalize hA2 : V / 2 ^ k % O6 = A2 at *
      have HA2 := hide hA2
      clear hA2
      have hkl2 : (k : Int) < ((8 * l.length : Nat) : Int) := by omega
      go_wp2_with fail
      refine wp_region_tail 6 [isV (.agg (q4 A)), isV (.slice (some ⟨bg, bo, Option.none⟩) (8 * l.length) bc), isV (.int .i64 (k : Int)), isV (.pointer (some ⟨bg, bo + k, Option.none⟩)), isV (iv bb), isV (.agg (q4 A2))]
        (by simp only [List.take_succ_cons, List.take_zero]; rfl) (by simp only [List.drop_succ_cons, List.drop_zero]; rfl) (by kernel_rfl) (by kernel_rfl) (by kernel_rfl) (by decide) rfl ?keep ?todo ?rest
      case keep => exact ⟨Keep.isV _, Keep.isV _, Keep.isV _, Keep.isV _, Keep.isV _, Keep.isV _, trivial⟩
      case todo =>
        refine ⟨?_, ?_, ?_, ?_, ?_, ?_, trivial⟩
        · intro ev X hT hb hk hf
          have e0 : ev (.tmp 4) = .pointer (some ⟨w2.heap.size, 0, Option.none⟩) := hk.1
          exact OpOk.load_row _ _ rfl _ e0 _ (q4 A) (0, 0) _ ((hT.block _ lA).trans GA.out) hu rfl (Hs.out _) ⟨rfl, Stay.refl _⟩
        · intro ev X hT hb hk hf
          have e0 : ev (.tmp 3) = .slice (some ⟨bg, bo, Option.none⟩) (8 * l.length) bc := hk.1
          exact OpOk.move rfl e0 ⟨rfl, Stay.refl _⟩
        · intro ev X hT hb hk hf
          have e0 : ev (.tmp 5) = .int .i64 (k : Int) := hk.1
          exact OpOk.move rfl e0 ⟨rfl, Stay.refl _⟩
        · intro ev X hT hb hk hf
          have e0 : ev (.tmp 16) = .slice (some ⟨bg, bo, Option.none⟩) (8 * l.length) bc := hf.1
          have e1 : ev (.tmp 17) = .int .i64 (k : Int) := hf.2.1
          exact OpOk.run (v := .pointer (some ⟨bg, bo + k, Option.none⟩)) (W' := X) (by simp [execOp, e0, e1, hkl, hkl2, go_sem]; try (intro h; omega)) ⟨rfl, Stay.refl _⟩
        · intro ev X hT hb hk hf
          have e0 : ev (.tmp 18) = .pointer (some ⟨bg, bo + k, Option.none⟩) := hf.1
          have cW := Hcell.out X (HBw.out.trans (hT.mono HBw.out.size))
          exact OpOk.run (v := iv bb) (W' := X) (by simp [execOp, e0, cW, go_sem]) ⟨rfl, Stay.refl _⟩
        · intro ev X hT hb hk hf
          have e0 : ev (.tmp 15) = .agg (q4 A) := hf.1
          have e1 : ev (.tmp 19) = iv bb := hf.2.1
          refine OpOk.enters (f := 71) (args := #[.agg (q4 A), iv bb]) (W' := X) (by simp [execOp, resolve, invoke, e0, e1, hb.1, hb.2.1, go_sem]) ((double_any A bb Hacc.out Hb1.out X).mono ?_)
          rintro e _ ⟨rfl, hB⟩
          exact ⟨_, rfl, congrArg (fun n => Value.agg (q4 n)) Hnext.out, hB⟩
      case rest =>
        intro X hT
        rintro _ - _ - _ - _ - _ - _ rfl
        have hx2 := HXk.out.below hT
        have gX2 := on_blk_mul hx2
        have hst2 := SP.on.setRow hx2 (q4 A2)
        have HX2 := hide hst2
        have HS2 := hide ((HSk.out.trans (Str.below hT)).setRow w2.heap.size (q4 A2))
        have hza : (q4 A).size = (q4 A2).size := by rw [q4_size, q4_size]
        have hone : (q4 A2).all (·.oneCell') = true := lvs_one _
        have HsR := hide (Hs.out A2)
        clear hT hx2 hst2 HXk HSk GA lA
        generalize hR4 : q4 A2 = R4 at *
        have HR4 := hide hR4
        clear hR4
        generalize q4 A = Q4 at *
        go_wp2
        refine Rest.done ?_
        go_wp2_with (refine wpList_store_row rfl _ _ _ rfl w2.heap.size R4 rfl rfl _ _ gX2 HsR.out hza hone ?_)
        refine ⟨⟨k, by omega, rfl, ?_, HS2.out⟩, by simp [intOf]⟩
        rw [HA2.out, HR4.out]
        exact HX2.out

/-- the byte of a number with this number -/
theorem wbs_get (ws : List Nat) (k : Nat) (h : k / 8 < ws.length) : (wbs ws)[k]? = some (UInt8.ofNat ((ws.getD (k / 8) 0) / 2 ^ (8 * (k % 8)))) := by
  induction ws generalizing k with
  | nil => simp at h
  | cons x l ih =>
    show (wb x ++ wbs l)[k]? = _
    by_cases hk : k < 8
    · rw [List.getElem?_append_left (by rw [wb_len]; exact hk), show k / 8 = 0 by omega, show k % 8 = k by omega]
      simp [wb, hk]
    · rw [List.getElem?_append_right (by rw [wb_len]; omega), wb_len, ih (k - 8) (by simp at h; omega), show k / 8 = (k - 8) / 8 + 1 by omega, show (k - 8) % 8 = k % 8 by omega]
      simp
theorem wbs_qs_get (m n k : Nat) (h : k / 8 < m) : (wbs (qs m n))[k]? = some (UInt8.ofNat (limb n (k / 8) / 2 ^ (8 * (k % 8)))) := by
  rw [wbs_get _ _ (by rw [qs_len]; exact h), List.getD_eq_getElem?_getD, qs_get m n _ h]; rfl

set_option maxRecDepth 100000 in
set_option maxHeartbeats 4000000 in
theorem bytesL_any (n : Nat) (w : World) :
    Calls Tryd.prog 65 #[.agg (q4 n)] w fun e w' => e = .returned (.agg (zb (wbs (qs 4 n)))) ∧ Below w.heap.size w w' := by
  have hu := Tryd.underlying23
  have hu6 := Tryd.underlying22
  have hu8 := Tryd.underlying5
  have hu32 := Tryd.underlying48
  have hz : ∀ w, (zeroValue 48).run Tryd.prog w = .ok (.agg (zb (List.replicate 32 0))) w := fun w => by kernel_rfl
  have hlen := wbs_len (qs 4 n)
  rw [qs_len] at hlen
  have h0 := (((on_all w).alloc (.cells (q4 n) 23)).alloc (.cells (zb (List.replicate 32 0)) 48)).alloc (.cells (zb (List.replicate 32 0)) 48)
  have hs0 := (((Str.refl w).alloc (.cells (q4 n) 23)).alloc (.cells (zb (List.replicate 32 0)) 48)).alloc (.cells (zb (List.replicate 32 0)) 48)
  simp only [World.size_alloc] at h0
  have H0 := hide h0
  have HS0 := hide hs0
  have Hlen := hide hlen
  have HsR : Hid ((Tryd.prog.info? 48).map (·.size) = some (zb (wbs (qs 4 n))).size) := hide (by rw [show (zb (wbs (qs 4 n))).size = 32 by simp [zb, vbs, hlen]]; kernel_rfl)
  have Hza : Hid ((zb (List.replicate 32 0)).size = (zb (wbs (qs 4 n))).size) := hide (by rw [show (zb (wbs (qs 4 n))).size = 32 by simp [zb, vbs, hlen]]; rfl)
  have Hone : Hid ((zb (wbs (qs 4 n))).all (·.oneCell') = true) := hide (vba _)
  clear h0 hs0 hlen
  generalize hA : q4 n = A4 at *
  generalize hZ : zb (List.replicate 32 0) = Z at *
  have HA := hide hA
  have HZ := hide hZ
  clear hA hZ
  go_enter Tryd.func65, Tryd.ntmps65
  go_wp2_with fail
  generalize ((w.alloc (.cells A4 23)).alloc (.cells Z 48)).alloc (.cells Z 48) = w1 at *
  go_loopw [4] (fun i wr => ∃ k : Nat, k ≤ 32 ∧ i = .int .i64 k ∧ (blk (w.heap.size + 1 + 1) (.cells (zb ((wbs (qs 4 n)).take k ++ (List.replicate 32 0).drop k)) 48 (0, 0)) * (blk (w.heap.size + 1) (.cells Z 48 (0, 0)) * (blk w.heap.size (.cells A4 23 (0, 0)) * all w))).on wr ∧ Str w wr) (fun i _ => 32 - (intOf i).toNat)
  case atStart =>
    refine ⟨0, by omega, rfl, ?_, HS0.out⟩
    rw [List.take_zero, List.drop_zero, List.nil_append, HZ.out]
    exact H0.out
  case round =>
    obtain ⟨k, hk, rfl, hX, hS2⟩ := hrel
    have HXk := hide hX
    have HSk := hide hS2
    clear hX hS2 H0 HS0
    by_cases hlt : k < 32
    · have hq4 : k / 8 < 4 := by omega
      have hset := set_takeN (wbs (qs 4 n)) (List.replicate 32 0) k _ (wbs_qs_get 4 n k hq4) (by simp; omega)
      have hst := SP.on.setCell (i := k) HXk.out (vb (UInt8.ofNat (limb n (k / 8) / 2 ^ (8 * (k % 8)))))
      rw [show (zb ((wbs (qs 4 n)).take k ++ (List.replicate 32 0).drop k)).setIfInBounds k (vb (UInt8.ofNat (limb n (k / 8) / 2 ^ (8 * (k % 8))))) = zb (((wbs (qs 4 n)).take k ++ (List.replicate 32 0).drop k).set k (UInt8.ofNat (limb n (k / 8) / 2 ^ (8 * (k % 8))))) by unfold zb; rw [List.setIfInBounds_toArray, ← vbs_set], hset] at hst
      have HN := hide hst
      obtain ⟨old, hold⟩ : ∃ v, wr.cell? ⟨w.heap.size + 1 + 1, k, Option.none⟩ = some v := by
        have hl : k < ((wbs (qs 4 n)).take k ++ (List.replicate 32 0).drop k).length := by rw [List.length_append, List.length_take, List.length_drop, Hlen.out]; simp; omega
        exact ⟨_, (cell_of_row wr (w.heap.size + 1 + 1) k _ _ _ (on_blk_mul HXk.out)).trans (by unfold zb; rw [List.getElem?_toArray]; exact vbs_get _ k hl)⟩
      have hfr := frozen_of_row wr (w.heap.size + 1 + 1) k _ _ (on_blk_mul HXk.out)
      have hca := (cell_of_row wr w.heap.size (k / 8) A4 _ _ (on_blk_mul HXk.out.right.right)).trans (show A4[k / 8]? = some (lv (limb n (k / 8))) by rw [← HA.out]; exact lvs_get _ _ _ (qs_get 4 n _ hq4))
      have c1 : IntKind.i64.wrap ((k : Int) / 8) = ((k / 8 : Nat) : Int) := by rw [IntWalk.i64_in _ (by omega)]; omega
      have c2 : ((k : Int)).tmod 8 = ((k % 8 : Nat) : Int) := by rw [Int.tmod_eq_emod_of_nonneg (by omega)]; omega
      have c3 : IntKind.i64.wrap (8 * ((k % 8 : Nat) : Int)) = ((8 * (k % 8) : Nat) : Int) := by rw [IntWalk.i64_in _ (by omega)]; omega
      have q1 := wb_byte (limb n (k / 8)) (k % 8)
      have l1 := limb_lt n (k / 8)
      have hk4 : ((k / 8 : Nat) : Int) < 4 := by omega
      have hk32 : (k : Int) < 32 := by omega
      have h64 : 8 * (k % 8) < 64 := by omega
      rw [IntKind.wrap_u8] at q1
      have Q1 := hide q1
      clear hset hst q1 HXk
      generalize limb n (k / 8) = u at *
      generalize hbt : UInt8.ofNat (u / 2 ^ (8 * (k % 8))) = bt at *
      have Hbt := hide hbt
      clear hbt
      go_wp2_with fail
      rw [Q1.out]
      exact ⟨⟨k + 1, by omega, by simp, HN.out, HSk.out.setCell _ _⟩, by simp [intOf]; omega⟩
    · obtain rfl : k = 32 := by omega
      have e4 : (wbs (qs 4 n)).take 32 ++ (List.replicate 32 0).drop 32 = wbs (qs 4 n) := by rw [List.take_of_length_le (by rw [Hlen.out]; omega), List.drop_of_length_le (by simp), List.append_nil]
      rw [e4] at HXk
      have gA := on_blk_mul HXk.out
      have gR := on_blk_mul HXk.out.right
      have HBw := hide (all_below HXk.out.right.right.right HSk.out)
      have hza := Hza.out
      have hone := Hone.out
      clear HXk e4 Hza Hone
      generalize hR4 : zb (wbs (qs 4 n)) = R4 at *
      have HR4 := hide hR4
      clear hR4
      go_wp2_with (first
        | (refine wpList_store_row rfl _ _ _ rfl (w.heap.size + 1) R4 rfl rfl _ _ gR HsR.out hza hone ?_)
        | (refine wpList_load_row rfl _ _ rfl (w.heap.size + 1 + 1) rfl _ R4 _ _ gA hu32 rfl HsR.out ?_))
      refine bodyPost_ret (v := .agg R4) (results_cell_row Tryd.results65 _ _ (w.heap.size + 1) _ R4 (0, 0) _ rfl (setRow_heap_same _ _ _ _ _ _ gR) hu32 rfl HsR.out) rfl ⟨by rw [HR4.out], below_setRow HBw.out (by omega) _⟩

theorem mul_acc (a b k : Nat) : (2 * (a * (b / 2 ^ (k + 1)) % O6) + 0) % O6 = a * (2 * (b / 2 ^ (k + 1))) % O6 := by
  rw [two_mod, Nat.add_zero]; congr 1; rw [← Nat.mul_assoc, Nat.mul_comm 2 a, Nat.mul_assoc]
theorem limb_bit (b k : Nat) : limb b (k / 64) / 2 ^ (k % 64) % 2 = b / 2 ^ k % 2 := by
  have h := testBit_limb b k
  rw [Nat.testBit_eq_decide_div_mod_eq, Nat.testBit_eq_decide_div_mod_eq, decide_eq_decide] at h
  have h1 := Nat.mod_lt (limb b (k / 64) / 2 ^ (k % 64)) (show 0 < 2 by decide)
  have h2 := Nat.mod_lt (b / 2 ^ k) (show 0 < 2 by decide)
  omega
set_option maxRecDepth 100000 in
set_option maxHeartbeats 4000000 in
theorem mulL_any (a b : Nat) (ha : a < O6) (hb : b < 18446744073709551616 ^ 4) (w : World) :
    Calls Tryd.prog 43 #[.agg (q4 a), .agg (q4 b)] w fun e w' => e = .returned (.agg (q4 (a * b % O6))) ∧ Below w.heap.size w w' := by
  have hu := Tryd.underlying23
  have hu6 := Tryd.underlying22
  have hz : ∀ w, (zeroValue 23).run Tryd.prog w = .ok (.agg (q4 0)) w := fun w => by rw [qz4]; kernel_rfl
  have Hs : Hid (∀ n, (Tryd.prog.info? 23).map (·.size) = some (q4 n).size) := hide fun n => by rw [q4_size]; kernel_rfl
  have h0 := ((((on_all w).alloc (.cells (q4 a) 23)).alloc (.cells (q4 b) 23)).alloc (.cells (q4 0) 23)).alloc (.cells (q4 0) 23)
  have hs0 := ((((Str.refl w).alloc (.cells (q4 a) 23)).alloc (.cells (q4 b) 23)).alloc (.cells (q4 0) 23)).alloc (.cells (q4 0) 23)
  simp only [World.size_alloc] at h0
  have H0 := hide h0
  have HS0 := hide hs0
  have Ha := hide ha
  have Hb := hide hb
  have HsA := hide (Hs.out a)
  clear h0 hs0 ha hb
  generalize hA : q4 a = A4 at *
  generalize hB : q4 b = B4 at *
  generalize hZ : q4 0 = Z4 at *
  have HA := hide hA
  have HB := hide hB
  have HZ := hide hZ
  clear hA hB hZ
  go_enter Tryd.func43, Tryd.ntmps43
  go_wp2_with fail
  generalize (((w.alloc (.cells A4 23)).alloc (.cells B4 23)).alloc (.cells Z4 23)).alloc (.cells Z4 23) = w1 at *
  go_loopw [6] (fun i wr => ∃ k : Nat, k ≤ 256 ∧ i = .int .i64 ((k : Int) - 1) ∧ (blk (w.heap.size + 1 + 1 + 1) (.cells (q4 (a * (b / 2 ^ k) % O6)) 23 (0, 0)) * (blk (w.heap.size + 1 + 1) (.cells Z4 23 (0, 0)) * (blk (w.heap.size + 1) (.cells B4 23 (0, 0)) * (blk w.heap.size (.cells A4 23 (0, 0)) * all w)))).on wr ∧ Str w wr) (fun i _ => (intOf i + 1).toNat)
  case atStart =>
    refine ⟨256, by omega, rfl, ?_, HS0.out⟩
    rw [Nat.div_eq_of_lt (show b < 2 ^ 256 from Hb.out), Nat.mul_zero, Nat.zero_mod, HZ.out]
    exact H0.out
  case round =>
    obtain ⟨k, hk, rfl, hX, hS2⟩ := hrel
    have HXk := hide hX
    have HSk := hide hS2
    clear hX hS2 H0 HS0
    cases k with
    | zero =>
      rw [Nat.pow_zero, Nat.div_one] at HXk
      have gA := on_blk_mul HXk.out
      have gR := on_blk_mul HXk.out.right
      have HBw := hide (all_below HXk.out.right.right.right.right HSk.out)
      have HsR := hide (Hs.out (a * b % O6))
      have hone : (q4 (a * b % O6)).all (·.oneCell') = true := lvs_one _
      have hza : Z4.size = (q4 (a * b % O6)).size := by rw [← HZ.out, q4_size, q4_size]
      clear HXk
      generalize hR4 : q4 (a * b % O6) = R4 at *
      have HR4 := hide hR4
      clear hR4
      go_wp2_with (first
        | (refine wpList_store_row rfl _ _ _ rfl (w.heap.size + 1 + 1) R4 rfl rfl _ _ gR HsR.out hza hone ?_)
        | (refine wpList_load_row rfl _ _ rfl (w.heap.size + 1 + 1 + 1) rfl _ R4 _ _ gA hu rfl HsR.out ?_))
      refine bodyPost_ret (v := .agg R4) (results_cell_row Tryd.results43 _ _ (w.heap.size + 1 + 1) _ R4 (0, 0) _ rfl (setRow_heap_same _ _ _ _ _ _ gR) hu rfl HsR.out) rfl ⟨by rw [HR4.out], below_setRow HBw.out (by omega) _⟩
    | succ k =>
      have hk4 : k / 64 < 4 := by omega
      have hacc : a * (b / 2 ^ (k + 1)) % O6 < O6 := Nat.mod_lt _ (by decide)
      have HD := hide (fun X => double_any (a * (b / 2 ^ (k + 1)) % O6) 0 hacc (by omega) X)
      rw [mul_acc] at HD
      have hacc2 : a * (2 * (b / 2 ^ (k + 1))) % O6 < O6 := Nat.mod_lt _ (by decide)
      have HAd := hide (fun X => addL_any (a * (2 * (b / 2 ^ (k + 1))) % O6) a hacc2 Ha.out X)
      have hpw := pow_step b k
      have Hadd := hide (show (a * (2 * (b / 2 ^ (k + 1))) % O6 + a) % O6 = a * (2 * (b / 2 ^ (k + 1)) + 1) % O6 by rw [Nat.mod_add_mod, Nat.mul_add a _ 1, Nat.mul_one])
      rw [Hadd.out, HA.out] at HAd
      have hbitv := limb_bit b k
      have Hpw := hide hpw
      have Hbitv := hide hbitv
      have gN := on_blk_mul HXk.out
      have hzN : (q4 (a * (b / 2 ^ (k + 1)) % O6)).size = (q4 (a * (2 * (b / 2 ^ (k + 1))) % O6)).size := by rw [q4_size, q4_size]
      have honeN : (q4 (a * (2 * (b / 2 ^ (k + 1))) % O6)).all (·.oneCell') = true := lvs_one _
      have HsN := hide (Hs.out (a * (b / 2 ^ (k + 1)) % O6))
      have HsN2 := hide (Hs.out (a * (2 * (b / 2 ^ (k + 1))) % O6))
      have HsN3 := hide (Hs.out (a * (2 * (b / 2 ^ (k + 1)) + 1) % O6))
      have hzN3 : (q4 (a * (2 * (b / 2 ^ (k + 1))) % O6)).size = (q4 (a * (2 * (b / 2 ^ (k + 1)) + 1) % O6)).size := by rw [q4_size, q4_size]
      have honeN3 : (q4 (a * (2 * (b / 2 ^ (k + 1)) + 1) % O6)).all (·.oneCell') = true := lvs_one _
      have c1 : IntKind.i64.wrap ((k : Int) / 64) = ((k / 64 : Nat) : Int) := by rw [IntWalk.i64_in _ (by omega)]; omega
      have c2 : ((k : Int)).tmod 64 = ((k % 64 : Nat) : Int) := by rw [Int.tmod_eq_emod_of_nonneg (by omega)]; omega
      have s1 : (((k + 1 : Nat) : Int) - 1) = (k : Int) := by omega
      have hk44 : ((k / 64 : Nat) : Int) < 4 := by omega
      have lu := limb_lt b (k / 64)
      have hlb : A4 = A4 ∧ B4[k / 64]? = some (lv (limb b (k / 64))) := ⟨rfl, by rw [← HB.out]; exact lvs_get _ _ _ (qs_get 4 b _ hk4)⟩
      have Hlb := hide hlb.2
      rw [s1]
      clear s1 hacc hacc2 hpw hbitv Hadd hlb
      generalize a * (b / 2 ^ (k + 1)) % O6 = N1 at *
      generalize hN2 : a * (2 * (b / 2 ^ (k + 1))) % O6 = N2 at *
      generalize hN3 : a * (2 * (b / 2 ^ (k + 1)) + 1) % O6 = N3 at *
      have HN2 := hide hN2
      have HN3 := hide hN3
      generalize b / 2 ^ (k + 1) = bh at *
      generalize hbk : b / 2 ^ k = bk at *
      have Hbk := hide hbk
      clear hN2 hN3 hbk
      generalize limb b (k / 64) = u at *
      generalize q4 N1 = Q1 at *
      generalize hQ2 : q4 N2 = Q2 at *
      generalize hQ3 : q4 N3 = Q3 at *
      have HQ2 := hide hQ2
      have HQ3 := hide hQ3
      clear hQ2 hQ3
      have lN : w.heap.size + 1 + 1 + 1 < wr.heap.size := (Array.getElem?_eq_some_iff.1 gN).1
      go_wp2_with (refine wpList_load_row rfl _ _ rfl (w.heap.size + 1 + 1 + 1) rfl _ Q1 _ _ gN hu rfl HsN.out ?_)
      refine (HD.out wr).mono ?_
      rintro e wd ⟨rfl, hBd⟩
      have hXd := HXk.out.below hBd
      have gNd := on_blk_mul hXd
      have hXd2 := SP.on.setRow hXd Q2
      have HXd2 := hide hXd2
      have HSd2 := hide ((HSk.out.trans (Str.below hBd)).setRow (w.heap.size + 1 + 1 + 1) Q2)
      clear hXd hXd2 hBd gN HXk HSk lN
      have hcl := (cell_of_row (wd.setRow (w.heap.size + 1 + 1 + 1) Q2) (w.heap.size + 1) (k / 64) B4 _ _ (on_blk_mul HXd2.out.right.right)).trans Hlb.out
      have gQ := on_blk_mul HXd2.out
      have gA := on_blk_mul HXd2.out.right.right.right
      have e1 : ((u : Nat) : Int) / 2 ^ (k % 64) = ((u / 2 ^ (k % 64) : Nat) : Int) := by rw [Int.natCast_ediv, Int.natCast_pow]; rfl
      by_cases hbit : bk % 2 = 1
      · have hv : (((u : Nat) : Int) / 2 ^ (k % 64)).tmod 2 = 1 := by
          rw [e1, Int.tmod_eq_emod_of_nonneg (Int.natCast_nonneg _)]
          have := Hbitv.out
          omega
        have Hfin := hide (show N3 = a * bk % O6 by rw [← HN3.out, Hpw.out, hbit])
        clear hbit e1
        go_wp2_with (first
          | (refine wpList_store_row rfl _ _ _ rfl (w.heap.size + 1 + 1 + 1) Q2 rfl rfl _ _ gNd HsN2.out hzN honeN ?_)
          | (refine wpList_load_row rfl _ _ rfl (w.heap.size + 1 + 1 + 1) rfl _ Q2 _ _ gQ hu rfl HsN2.out ?_)
          | (refine wpList_load_row rfl _ _ rfl w.heap.size rfl _ A4 _ _ gA hu rfl HsA.out ?_))
        refine (HAd.out _).mono ?_
        rintro e we ⟨rfl, hBe⟩
        have hXe := HXd2.out.below hBe
        have gNe := on_blk_mul hXe
        have HXe2 := hide (SP.on.setRow hXe Q3)
        have HSe2 := hide ((HSd2.out.trans (Str.below hBe)).setRow (w.heap.size + 1 + 1 + 1) Q3)
        clear hXe hBe hcl gQ gA HXd2 HSd2 gNd
        go_wp2_with (refine wpList_store_row rfl _ _ _ rfl (w.heap.size + 1 + 1 + 1) Q3 rfl rfl _ _ gNe HsN3.out hzN3 honeN3 ?_)
        refine ⟨⟨k, by omega, rfl, ?_, HSe2.out⟩, by simp [intOf]⟩
        rw [Hbk.out, ← Hfin.out, HQ3.out]
        exact HXe2.out
      · have hv : (((u : Nat) : Int) / 2 ^ (k % 64)).tmod 2 = 0 := by
          rw [e1, Int.tmod_eq_emod_of_nonneg (Int.natCast_nonneg _)]
          have := Hbitv.out
          omega
        have Hfin := hide (show N2 = a * bk % O6 by rw [← HN2.out, Hpw.out, show bk % 2 = 0 by omega, Nat.add_zero])
        clear hbit e1
        go_wp2_with (refine wpList_store_row rfl _ _ _ rfl (w.heap.size + 1 + 1 + 1) Q2 rfl rfl _ _ gNd HsN2.out hzN honeN ?_)
        refine ⟨⟨k, by omega, rfl, ?_, HSd2.out⟩, by simp [intOf]⟩
        rw [Hbk.out, ← Hfin.out, HQ2.out]
        exact HXd2.out
end Go.Proofs.YtgkofpfjbjnhfaaDoor
