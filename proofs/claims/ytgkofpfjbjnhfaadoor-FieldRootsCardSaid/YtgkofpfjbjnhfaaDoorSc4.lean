/- scalar: bytes modulo the order. -/
import Derived.Test.YtgkofpfjbjnhfaaDoorSc3
namespace Go.Proofs.YtgkofpfjbjnhfaaDoor
open Go.ChangeShapes Go.WideShapes Go.ChangeAt Go.RowKit
set_option linter.unusedVariables false
set_option linter.unusedSimpArgs false

/-- the number of bytes, the lowest first -/
def leN : List UInt8 → Nat
  | [] => 0
  | x :: l => x.toNat + 256 * leN l
theorem redO_two (a b : Nat) (ha : a < O6) (hb : b ≤ 1) : redO (2 * a + b) = (2 * a + b) % O6 := by
  unfold redO O6 at *
  split <;> omega
def bitAcc (acc c j : Nat) : Nat := (acc * 2 ^ j + c / 2 ^ (8 - j)) % O6
theorem bitAcc_lt (acc c j : Nat) : bitAcc acc c j < O6 := Nat.mod_lt _ (by decide)
theorem bitAcc_0 (acc c : Nat) (ha : acc < O6) (hc : c < 256) : bitAcc acc c 0 = acc := by
  unfold bitAcc
  simp only [Nat.pow_zero, Nat.mul_one, Nat.sub_zero, Nat.reducePow]
  rw [show c / 256 = 0 by omega, Nat.add_zero, Nat.mod_eq_of_lt ha]
theorem two_mod (y b : Nat) : (2 * (y % O6) + b) % O6 = (2 * y + b) % O6 := by unfold O6; omega
theorem bitAcc_step (acc c j : Nat) (hc : c < 256) (hj : j < 8) : bitAcc acc c (j + 1) = redO (2 * bitAcc acc c j + c / 2 ^ (7 - j) % 2) := by
  rw [redO_two _ _ (bitAcc_lt _ _ _) (by omega)]
  unfold bitAcc
  rw [two_mod]
  congr 1
  match j, hj with
  | 0, _ => simp only [Nat.reducePow, Nat.reduceSub, Nat.reduceAdd]; omega
  | 1, _ => simp only [Nat.reducePow, Nat.reduceSub, Nat.reduceAdd]; omega
  | 2, _ => simp only [Nat.reducePow, Nat.reduceSub, Nat.reduceAdd]; omega
  | 3, _ => simp only [Nat.reducePow, Nat.reduceSub, Nat.reduceAdd]; omega
  | 4, _ => simp only [Nat.reducePow, Nat.reduceSub, Nat.reduceAdd]; omega
  | 5, _ => simp only [Nat.reducePow, Nat.reduceSub, Nat.reduceAdd]; omega
  | 6, _ => simp only [Nat.reducePow, Nat.reduceSub, Nat.reduceAdd]; omega
  | 7, _ => simp only [Nat.reducePow, Nat.reduceSub, Nat.reduceAdd]; omega
theorem bitAcc_8 (l : List UInt8) (x : UInt8) : bitAcc (leN l % O6) x.toNat 8 = leN (x :: l) % O6 := by
  unfold bitAcc
  simp only [Nat.reducePow, Nat.reduceSub, Nat.div_one, leN]
  unfold O6
  omega
theorem O6_small {a : Nat} (h : a < O6) : 2 * a + 1 < 18446744073709551616 ^ 4 := by
  unfold O6 at h; simp only [Nat.reducePow]; omega
theorem drop_byte (b : List UInt8) (k : Nat) (h : k < b.length) : b.drop (b.length - (k + 1)) = b[b.length - 1 - k] :: b.drop (b.length - k) := by
  rw [List.drop_eq_getElem_cons (by omega)]
  congr 1
  · congr 1; omega
  · congr 1; omega

theorem and_one (d : Nat) (h : d < 256) : bits .and .u8 (d : Int) 1 = ((d % 2 : Nat) : Int) :=
  (by decide +kernel : ∀ d : Fin 256, bits .and .u8 ((d.val : Nat) : Int) 1 = ((d.val % 2 : Nat) : Int)) ⟨d, h⟩

set_option maxRecDepth 100000 in
set_option maxHeartbeats 8000000 in
theorem reduce_any (v : Value) (b : List UInt8) (w : World) (h : IsBytes w v b) (hO : TabO w) (hlen : b.length ≤ 1000000) :
    Calls Tryd.prog 46 #[v] w fun e w' => e = .returned (.agg (q4 (leN b % O6))) ∧ Below w.heap.size w w' := by
  have hu := Tryd.underlying58
  have hz : ∀ w, (zeroValue 58).run Tryd.prog w = .ok (.agg (q4 0)) w := fun w => by rw [qz4]; kernel_rfl
  have Hs : Hid (∀ n, (Tryd.prog.info? 58).map (·.size) = some (q4 n).size) := hide fun n => by rw [q4_size]; kernel_rfl
  have Hb := hide h
  obtain ⟨a, c, rfl, hc, hm, _, _⟩ := h
  unfold maxLen at hm
  have h0 := ((on_all w).alloc (.cells (q4 0) 58)).alloc (.cells (q4 0) 58)
  have hs0 := ((Str.refl w).alloc (.cells (q4 0) 58)).alloc (.cells (q4 0) 58)
  rw [World.size_alloc] at h0
  have H0 := hide h0
  have HS0 := hide hs0
  have HO := hide hO
  clear h0 hs0 hO
  generalize hZ : q4 0 = Z4 at *
  have HZ := hide hZ
  clear hZ
  go_enter Tryd.func46, Tryd.ntmps46
  go_wp2_with fail
  generalize (w.alloc (.cells Z4 58)).alloc (.cells Z4 58) = w1 at *
  go_loopw [9] (fun i wr => ∃ k : Nat, k ≤ b.length ∧ i = .int .i64 k ∧ (blk (w.heap.size + 1) (.cells (q4 (leN (b.drop (b.length - k)) % O6)) 58 (0, 0)) * (blk w.heap.size (.cells Z4 58 (0, 0)) * all w)).on wr ∧ Str w wr) (fun i _ => b.length - (intOf i).toNat)
  case atStart =>
    refine ⟨0, by omega, rfl, ?_, HS0.out⟩
    rw [Nat.sub_zero, List.drop_length, show leN [] % O6 = 0 by decide, HZ.out]
    exact H0.out
  case round =>
    obtain ⟨k, hk, rfl, hX, hS2⟩ := hrel
    have HXk := hide hX
    have HSk := hide hS2
    clear hX hS2 H0 HS0
    by_cases hlt : k < b.length
    · have hdb := drop_byte b k hlt
      have hidx : b.length - 1 - k < b.length := by omega
      obtain ⟨bg, bo, rfl⟩ : ∃ bg bo, a = some ⟨bg, bo, Option.none⟩ := by
        obtain ⟨_, _, e, _, _, h3, _⟩ := Hb.out
        simp only [Value.slice.injEq] at e
        obtain ⟨rfl, _, rfl⟩ := e
        exact Lay.isAddr h3 0 (by simp; omega)
      have hbx := Hb.out.below (all_below HXk.out.right.right HSk.out)
      have cx : wr.cell? ⟨bg, bo + (b.length - 1 - k), Option.none⟩ = some (vb b[b.length - 1 - k]) := by
        obtain ⟨_, _, e, _, _, h3, _⟩ := hbx
        simp only [Value.slice.injEq] at e
        obtain ⟨rfl, _, rfl⟩ := e
        exact Lay.cell h3 _ (vbs_get b _ hidx)
      have Hdb := hide (show leN (b.drop (b.length - (k + 1))) = leN (b[b.length - 1 - k] :: b.drop (b.length - k)) by rw [hdb])
      have hacc : leN (b.drop (b.length - k)) % O6 < O6 := Nat.mod_lt _ (by decide)
      have Hnext := hide (bitAcc_8 (b.drop (b.length - k)) b[b.length - 1 - k])
      rw [← Hdb.out] at Hnext
      have hx8 := UInt8.toNat_lt b[b.length - 1 - k]
      clear hbx hdb Hdb
      generalize leN (b.drop (b.length - k)) % O6 = acc at *
      generalize b[b.length - 1 - k] = x at *
      have s1 : IntKind.i64.wrap ((b.length : Int) - 1) = (b.length : Int) - 1 := IntWalk.i64_in _ (by omega)
      have s2 : IntKind.i64.wrap ((b.length : Int) - 1 - (k : Int)) = ((b.length - 1 - k : Nat) : Int) := by rw [IntWalk.i64_in _ (by omega)]; omega
      have hmm : ((b.length - 1 - k : Nat) : Int) < (b.length : Int) := by omega
      go_wp2_with fail
      go_loopw [20] (fun i wr => ∃ j : Nat, j ≤ 8 ∧ i = .int .i64 j ∧ (blk (w.heap.size + 1) (.cells (q4 (bitAcc acc x.toNat j)) 58 (0, 0)) * (blk w.heap.size (.cells Z4 58 (0, 0)) * all w)).on wr ∧ Str w wr) (fun i _ => 8 - (intOf i).toNat)
      case atStart =>
        refine ⟨0, by omega, rfl, ?_, HSk.out⟩
        rw [bitAcc_0 _ _ hacc hx8]
        exact HXk.out
      case round =>
        obtain ⟨j, hj, rfl, hX, hS2⟩ := hrel
        have HXj := hide hX
        have HSj := hide hS2
        clear hX hS2 HXk HSk cx
        by_cases hltj : j < 8
        · have j8 : (j : Int) < 8 := by omega
          have Hst := hide (bitAcc_step acc x.toNat j hx8 hltj)
          have hA := bitAcc_lt acc x.toNat j
          have Hb1 := hide (show x.toNat / 2 ^ (7 - j) % 2 ≤ 1 by omega)
          have GX := hide (on_blk_mul HXj.out)
          have HOj := hide (HO.out.below (all_below HXj.out.right.right HSj.out))
          have s7 : IntKind.i64.wrap (7 - (j : Int)) = ((7 - j : Nat) : Int) := by rw [IntWalk.i64_in _ (by omega)]; omega
          generalize bitAcc acc x.toNat j = A at *
          go_wp2_with fail
          have hdlt : x.toNat / 2 ^ (7 - j) < 256 := Nat.lt_of_le_of_lt (Nat.div_le_self _ _) hx8
          generalize hd1 : x.toNat / 2 ^ (7 - j) = d1 at *
          have Hd1 := hide hd1
          clear hd1
          have s8 : (x.toNat : Int) / 2 ^ (7 - j) = (d1 : Int) := by rw [← Hd1.out, Int.natCast_ediv, Int.natCast_pow]; rfl
          generalize hbb : d1 % 2 = bb at *
          have Hbb := hide hbb
          clear hbb
          have s9 : bits .and .u8 (d1 : Int) 1 = (bb : Int) := (and_one d1 hdlt).trans (by rw [Hbb.out])
          have HL := hide (show 2 * A + bb < 18446744073709551616 ^ 4 from Nat.lt_of_le_of_lt (by have := Hb1.out; omega) (O6_small hA))
          generalize hA2 : redO (2 * A + bb) = A2 at *
          have HA2 := hide hA2
          clear hA2
          have lX := hide (Array.getElem?_eq_some_iff.1 GX.out).1
          refine wp_region_tail 8 [isV (.agg (q4 A)), isV (vb x), isV (.int .i64 (j : Nat)), isV (.int .i64 ((7 - j : Nat) : Int)), isV (.int .u8 (d1 : Nat)), isV (.int .u8 (bb : Nat)), isV (.agg (q4 (2 * A + bb))), isV (.agg (q4 A2))]
            (by simp only [List.take_succ_cons, List.take_zero]; rfl) (by simp only [List.drop_succ_cons, List.drop_zero]; rfl) (by kernel_rfl) (by kernel_rfl) (by kernel_rfl) (by decide) rfl ?keep ?todo ?rest
          case keep => exact ⟨Keep.isV _, Keep.isV _, Keep.isV _, Keep.isV _, Keep.isV _, Keep.isV _, Keep.isV _, Keep.isV _, trivial⟩
          case todo =>
            refine ⟨?_, ?_, ?_, ?_, ?_, ?_, ?_, ?_, trivial⟩
            · intro ev X hT hb hk hf
              have e0 : ev (.tmp 3) = .pointer (some ⟨w.heap.size + 1, 0, Option.none⟩) := hk.1
              exact OpOk.load_row _ _ rfl _ e0 _ (q4 A) (0, 0) _ ((hT.block _ lX.out).trans GX.out) hu rfl (Hs.out _) ⟨rfl, Stay.refl _⟩
            · intro ev X hT hb hk hf
              have e0 : ev (.tmp 5) = vb x := hk.1
              exact OpOk.move rfl e0 ⟨rfl, Stay.refl _⟩
            · intro ev X hT hb hk hf
              have e0 : ev (.tmp 6) = .int .i64 (j : Nat) := hk.1
              exact OpOk.move rfl e0 ⟨rfl, Stay.refl _⟩
            · intro ev X hT hb hk hf
              have e0 : ev (.tmp 25) = .int .i64 (j : Nat) := hf.1
              exact OpOk.run (v := .int .i64 ((7 - j : Nat) : Int)) (W' := X) (by simp [execOp, e0, hb.1, s7, go_sem]) ⟨rfl, Stay.refl _⟩
            · intro ev X hT hb hk hf
              have e0 : ev (.tmp 24) = vb x := hf.1
              have e1 : ev (.tmp 26) = .int .i64 ((7 - j : Nat) : Int) := hf.2.1
              exact OpOk.run (v := .int .u8 (d1 : Nat)) (W' := X) (by simp [execOp, e0, e1, vb, s8, go_sem]) ⟨rfl, Stay.refl _⟩
            · intro ev X hT hb hk hf
              have e0 : ev (.tmp 27) = .int .u8 (d1 : Nat) := hf.1
              exact OpOk.run (v := .int .u8 (bb : Nat)) (W' := X) (by simp [execOp, e0, hb.1, s9, go_sem]) ⟨rfl, Stay.refl _⟩
            · intro ev X hT hb hk hf
              have e0 : ev (.tmp 23) = .agg (q4 A) := hf.1
              have e1 : ev (.tmp 28) = .int .u8 (bb : Nat) := hf.2.1
              refine OpOk.enters (f := 73) (args := #[.agg (q4 A), .int .u8 (bb : Nat)]) (W' := X) (by simp [execOp, resolve, invoke, e0, e1, hb.1, hb.2.1, go_sem]) ((twice_any A bb Hb1.out X).mono ?_)
              rintro e _ ⟨rfl, hB⟩
              exact ⟨_, rfl, rfl, hB⟩
            · intro ev X hT hb hk hf
              have e0 : ev (.tmp 29) = .agg (q4 (2 * A + bb)) := hf.1
              refine OpOk.enters (f := 72) (args := #[.agg (q4 (2 * A + bb))]) (W' := X) (by simp [execOp, resolve, invoke, e0, hb.1, hb.2.1, go_sem]) ((reduced_any (2 * A + bb) HL.out X (HOj.out.below hT)).mono ?_)
              rintro e _ ⟨rfl, hB⟩
              exact ⟨_, rfl, congrArg (fun n => Value.agg (q4 n)) HA2.out, hB⟩
          case rest =>
            intro X hT
            rintro _ rfl _ rfl _ rfl _ rfl _ rfl _ rfl _ rfl _ rfl
            have hx2 := HXj.out.below hT
            have gX2 := on_blk_mul hx2
            have hst2 := SP.on.setRow hx2 (q4 A2)
            have HX2 := hide hst2
            have HS2 := hide ((HSj.out.trans (Str.below hT)).setRow (w.heap.size + 1) (q4 A2))
            have hza : (q4 A).size = (q4 A2).size := by rw [q4_size, q4_size]
            have hone : (q4 A2).all (·.oneCell') = true := lvs_one _
            have HsR : Hid ((Tryd.prog.info? 58).map (·.size) = some (q4 A2).size) := hide (Hs.out _)
            clear hT hx2 hst2 HXj HSj GX lX HOj
            generalize hR4 : q4 A2 = R4 at *
            have HR4 := hide hR4
            clear hR4
            generalize q4 A = Q4 at *
            go_wp2
            refine Rest.done ?_
            go_wp2_with (refine wpList_store_row rfl _ _ _ rfl (w.heap.size + 1) R4 rfl rfl _ _ gX2 HsR.out hza hone ?_)
            refine ⟨⟨j + 1, by omega, by simp, ?_, HS2.out⟩, by simp [intOf]; omega⟩
            rw [Hst.out, HR4.out]
            exact HX2.out
        · obtain rfl : j = 8 := by omega
          rw [Hnext.out] at HXj
          go_wp2_with fail
          exact ⟨⟨k + 1, by omega, by simp, HXj.out, HSj.out⟩, by simp [intOf]; omega⟩
    · obtain rfl : k = b.length := by omega
      rw [Nat.sub_self, List.drop_zero] at HXk
      have gA := on_blk_mul HXk.out
      have gR := on_blk_mul HXk.out.right
      have HB := hide (all_below HXk.out.right.right HSk.out)
      have hone : (q4 (leN b % O6)).all (·.oneCell') = true := lvs_one _
      have HsR : Hid ((Tryd.prog.info? 58).map (·.size) = some (q4 (leN b % O6)).size) := hide (Hs.out _)
      have hza : Z4.size = (q4 (leN b % O6)).size := by rw [← HZ.out, q4_size, q4_size]
      clear HXk
      generalize hR4 : q4 (leN b % O6) = R4 at *
      have HR4 := hide hR4
      clear hR4
      go_wp2_with (first
        | (refine wpList_store_row rfl _ _ _ rfl w.heap.size R4 rfl rfl _ _ gR HsR.out hza hone ?_)
        | (refine wpList_load_row rfl _ _ rfl (w.heap.size + 1) rfl _ R4 _ _ gA hu rfl HsR.out ?_))
      refine bodyPost_ret (v := .agg R4) (results_cell_row Tryd.results46 _ _ w.heap.size _ R4 (0, 0) _ rfl (setRow_heap_same _ _ _ _ _ _ gR) hu rfl HsR.out) rfl ⟨by rw [HR4.out], below_setRow HB.out (by omega) _⟩
end Go.Proofs.YtgkofpfjbjnhfaaDoor
