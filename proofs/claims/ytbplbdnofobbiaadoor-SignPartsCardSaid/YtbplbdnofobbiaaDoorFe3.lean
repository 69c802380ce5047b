/- field: the whole product; what is above 2^255 folded; the product. -/
import Derived.Test.YtbplbdnofobbiaaDoorFe2
import Derived.Test.YtbplbdnofobbiaaDoorGSc3
set_option linter.unusedVariables false
set_option linter.unusedSimpArgs false
set_option maxRecDepth 100000
set_option maxHeartbeats 8000000
namespace Go.Proofs.YtbplbdnofobbiaaDoor
namespace Fe
open Go.ChangeShapes Go.WideShapes Go.ChangeAt Go.RowKit
theorem grown_any (x y c d : Nat) (hx : x < 18446744073709551616) (hy : y < 18446744073709551616) (hc : c < 18446744073709551616) (hd : d < 18446744073709551616) (w : World) :
  Calls Tryd.prog 106 #[lv x, lv y, lv c, lv d] w fun e w' => e = .returned (.tuple #[lv ((x * y + c + d) / 18446744073709551616), lv ((x * y + c + d) % 18446744073709551616)]) ∧ w' = w := by
 obtain ⟨b1, b2, b3, b4⟩ := grown_num x y c d hx hy hc hd
 have c1 := mul64_any x y hx hy
 have HB3 := hide b3
 have HB4 := hide b4
 clear b3 b4
 have hh : x * y / 18446744073709551616 < 18446744073709551616 := by omega
 generalize (x * y + c + d) / 18446744073709551616 = rh at *
 generalize (x * y + c + d) % 18446744073709551616 = rl at *
 generalize x * y / 18446744073709551616 = hi at *
 have hl : x * y % 18446744073709551616 < 18446744073709551616 := Nat.mod_lt _ (by decide)
 generalize x * y % 18446744073709551616 = lo at *
 have h1 := fun X => add64_run0 lo c X
 generalize (lo + c) % 18446744073709551616 = l1 at *
 generalize (lo + c) / 18446744073709551616 = k1 at *
 have h2 := fun X => add64_run0 l1 d X
 generalize (l1 + d) % 18446744073709551616 = l2 at *
 generalize (l1 + d) / 18446744073709551616 = k2 at *
 have H1 := hide h1
 have H2 := hide h2
 have W1 := hide (wrapS _ b1)
 have W2 := hide (wrapS _ b2)
 clear h1 h2
 go_enter Tryd.func106, Tryd.ntmps106
 go_wp2_with fail
 refine (c1 _).mono ?_
 rintro e w' ⟨rfl, rfl⟩
 go_wp2_with fail
 rw [H1.out]
 simp only [Oper.upon]
 go_wp2_with fail
 rw [H2.out]
 simp only [Oper.upon]
 go_wp2_with fail
 have q1 : (hi : Int) + (k1 : Int) + (k2 : Int) = ((rh : Nat) : Int) := by rw [← HB4.out]; simp
 rw [q1, HB3.out]
 go_ret2
 exact ⟨rfl, rfl⟩
theorem wide_any (a b : Nat) (ha : a < 18446744073709551616 ^ 4) (hb : b < 18446744073709551616 ^ 4) (w : World) :
  Calls Tryd.prog 105 #[.agg (q4 a), .agg (q4 b)] w fun e w' => e = .returned (.agg (q8 (a * b))) ∧ Below w.heap.size w w' := by
 have hu := Tryd.underlying25
 have hu6 := Tryd.underlying22
 have hu8 := Tryd.underlying141
 have hz : ∀ w, (zeroValue 25).run Tryd.prog w = .ok (.agg (q4 0)) w := fun w => by rw [qz4]; kernel_rfl
 have hz8 : ∀ w, (zeroValue 141).run Tryd.prog w = .ok (.agg (q8 0)) w := fun w => by kernel_rfl
 have Hs : ∀ n, (Tryd.prog.info? 25).map (·.size) = some (q4 n).size := fun n => by rw [q4_size]; kernel_rfl
 have HsA := hide (Hs a)
 have HsB := hide (Hs b)
 have HsR : Hid ((Tryd.prog.info? 141).map (·.size) = some (q8 (a * b)).size) := hide (by rw [q8_size]; kernel_rfl)
 have h0 := ((((on_all w).alloc (.cells (q4 a) 25)).alloc (.cells (q4 b) 25)).alloc (.cells (q8 0) 141)).alloc (.cells (q8 0) 141)
 have hs0 := ((((Str.refl w).alloc (.cells (q4 a) 25)).alloc (.cells (q4 b) 25)).alloc (.cells (q8 0) 141)).alloc (.cells (q8 0) 141)
 simp only [World.size_alloc] at h0
 have H0 := hide h0
 have HS0 := hide hs0
 have Ha := hide ha
 have Hb := hide hb
 clear h0 hs0 ha hb Hs
 generalize hA : q4 a = A4 at *
 generalize hB : q4 b = B4 at *
 generalize hZ8 : q8 0 = Z8 at *
 have HA := hide hA
 have HB := hide hB
 have HZ8 := hide hZ8
 clear hA hB hZ8
 have gA := on_blk_mul H0.out.right.right.right
 have Hia : Hid (∀ (X : World) (k : Nat), k < 4 → (Instr.index 25 (.agg A4) (.int .i64 (k : Int))).run Tryd.prog X = .ok (lv (limb a k)) X) := hide fun X k hk => run_index_one X 25 22 4 A4 k (lv (limb a k)) .u64 hu hu6 (by kernel_rfl) hk (by rw [← HA.out]; exact lvs_get _ k _ (qs_get 4 a k hk))
 have Hib : Hid (∀ (X : World) (k : Nat), k < 4 → (Instr.index 25 (.agg B4) (.int .i64 (k : Int))).run Tryd.prog X = .ok (lv (limb b k)) X) := hide fun X k hk => run_index_one X 25 22 4 B4 k (lv (limb b k)) .u64 hu hu6 (by kernel_rfl) hk (by rw [← HB.out]; exact lvs_get _ k _ (qs_get 4 b k hk))
 go_enter Tryd.func105, Tryd.ntmps105
 go_wp2_with (refine wL gA hu HsA ?_)
 generalize (((w.alloc (.cells A4 25)).alloc (.cells B4 25)).alloc (.cells Z8 141)).alloc (.cells Z8 141) = w1 at *
 go_loopw [12] (fun i wr => ∃ k : Nat, k ≤ 4 ∧ i = .int .i64 k ∧ (blk (w.heap.size + 1 + 1 + 1) (.cells (q8 (pMul a b k)) 141 (0, 0)) * (blk (w.heap.size + 1 + 1) (.cells Z8 141 (0, 0)) * (blk (w.heap.size + 1) (.cells B4 25 (0, 0)) * (blk w.heap.size (.cells A4 25 (0, 0)) * all w)))).on wr ∧ Str w wr) (fun i _ => 4 - (intOf i).toNat)
 case atStart =>
  refine ⟨0, by omega, rfl, ?_, HS0.out⟩
  rw [pMul_0, HZ8.out]
  exact H0.out
 case round =>
  obtain ⟨k, hk, rfl, hX, hS2⟩ := hrel
  have HXk := hide hX
  have HSk := hide hS2
  clear hX hS2 H0 HS0 gA
  by_cases hlt : k < 4
  ·have hia := Hia.out wr k hlt
   have gB := on_blk_mul HXk.out.right.right
   go_wp2_with (refine wL gB hu HsB ?_)
   go_loopw [8, 17] (fun ov j wr => ∃ m : Nat, m ≤ 4 ∧ j = .int .i64 m ∧ ov = lv (oMul (pMul a b k) (limb a k) b k m) ∧ (blk (w.heap.size + 1 + 1 + 1) (.cells (lvs (wMid a b k m)) 141 (0, 0)) * (blk (w.heap.size + 1 + 1) (.cells Z8 141 (0, 0)) * (blk (w.heap.size + 1) (.cells B4 25 (0, 0)) * (blk w.heap.size (.cells A4 25 (0, 0)) * all w)))).on wr ∧ Str w wr) (fun _ j _ => 4 - (intOf j).toNat)
   case atStart =>
    refine ⟨0, by omega, rfl, by rw [oMul_0]; rfl, ?_, HSk.out⟩
    rw [wMid_0 a b k (by omega)]
    exact HXk.out
   case round =>
    obtain ⟨m, hm, rfl, rfl, hX, hS2⟩ := hrel
    have HXm := hide hX
    have HSm := hide hS2
    clear hX hS2 HXk HSk hia gB
    by_cases hlm : m < 4
    ·have hib := Hib.out wr m hlm
     have hkm : k + m < 8 := by omega
     have hcell := (cell_of_row wr (w.heap.size + 1 + 1 + 1) (k + m) _ _ _ (on_blk_mul HXm.out)).trans (lvs_get _ _ _ (wMid_get a b k m hkm))
     have hfr := frozen_of_row wr (w.heap.size + 1 + 1 + 1) (k + m) _ _ (on_blk_mul HXm.out)
     have hset := SP.on.setCell (i := k + m) HXm.out (lv (limb (uMul (pMul a b k) (limb a k) b k (m + 1)) (k + m)))
     rw [lvs_set, wMid_set a b k m hkm] at hset
     have HN := hide hset
     have Hg := hide (fun X => grown_any (limb a k) (limb b m) (limb (pMul a b k) (k + m)) (oMul (pMul a b k) (limb a k) b k m) (limb_lt _ _) (limb_lt _ _) (limb_lt _ _) (oMul_lt _ _ _ _ _ (limb_lt _ _)) X)
     rw [← oMul_step, ← uMul_limb] at Hg
     have hm4 : (m : Int) < 4 := by omega
     have s1 : IntKind.i64.wrap ((k : Int) + (m : Int)) = ((k + m : Nat) : Int) := by rw [IntWalk.i64_in _ (by omega)]; omega
     have hkm8 : ((k + m : Nat) : Int) < 8 := by omega
     clear hset HXm
     generalize limb a k = x at *
     generalize limb b m = y at *
     generalize limb (pMul a b k) (k + m) = c at *
     generalize oMul (pMul a b k) x b k m = d at *
     generalize limb (uMul (pMul a b k) x b k (m + 1)) (k + m) = lo at *
     generalize hhi : oMul (pMul a b k) x b k (m + 1) = hi at *
     have Hhi := hide hhi
     clear hhi
     go_wp2_with fail
     refine (Hg.out _).mono ?_
     rintro e w' ⟨rfl, rfl⟩
     go_wp2_with fail
     refine ⟨⟨m + 1, by omega, by simp, by rw [Hhi.out], HN.out, HSm.out.setCell _ _⟩, by simp [intOf]; omega⟩
    ·obtain rfl : m = 4 := by omega
     have hk8 : k + 4 < 8 := by omega
     have hwl := wMid_len a b k 4 (by omega)
     obtain ⟨old, hcell⟩ : ∃ v, wr.cell? ⟨w.heap.size + 1 + 1 + 1, k + 4, .none⟩ = some v := ⟨_, (cell_of_row wr (w.heap.size + 1 + 1 + 1) (k + 4) _ _ _ (on_blk_mul HXm.out)).trans (lvs_get _ (k + 4) (wMid a b k 4)[k + 4] (List.getElem?_eq_getElem (by omega)))⟩
     have hfr := frozen_of_row wr (w.heap.size + 1 + 1 + 1) (k + 4) _ _ (on_blk_mul HXm.out)
     have hset := SP.on.setCell (i := k + 4) HXm.out (lv (oMul (pMul a b k) (limb a k) b k 4))
     rw [lvs_set, wMid_4 a b k hlt Hb.out] at hset
     have HN := hide hset
     have s1 : IntKind.i64.wrap ((k : Int) + 4) = ((k + 4 : Nat) : Int) := by rw [IntWalk.i64_in _ (by omega)]; omega
     have hkm8 : ((k + 4 : Nat) : Int) < 8 := by omega
     clear hset HXm hwl
     generalize oMul (pMul a b k) (limb a k) b k 4 = d at *
     go_wp2_with fail
     refine ⟨⟨k + 1, by omega, by simp, HN.out, HSm.out.setCell _ _⟩, by simp [intOf]; omega⟩
  ·obtain rfl : k = 4 := by omega
   have hp : pMul a b 4 = a * b := by unfold pMul; rw [Nat.mod_eq_of_lt Ha.out]
   rw [hp] at HXk
   have HBw := hide (all_below HXk.out.right.right.right.right HSk.out)
   have g8 := on_blk_mul HXk.out
   have gR := on_blk_mul HXk.out.right
   have hone : (q8 (a * b)).all (·.oneCell') = true := lvs_one _
   have hza : Z8.size = (q8 (a * b)).size := by rw [← HZ8.out, q8_size, q8_size]
   clear hp HXk
   generalize hR8 : q8 (a * b) = R8 at *
   have HR8 := hide hR8
   clear hR8
   go_wp2_with (first
    | (refine wS gR HsR.out hza hone ?_)
    | (refine wL g8 hu8 HsR ?_))
   exact retE Tryd.results105 gR hu8 HsR.out rfl (by rw [HR8.out]) HBw.out (by omega)
/-! a number and thirty-eight times another one, limb by limb -/
def tO (W H k : Nat) : Nat := (W % 18446744073709551616 ^ k + 38 * (H % 18446744073709551616 ^ k)) / 18446744073709551616 ^ k
theorem tO_0 (W H : Nat) : tO W H 0 = 0 := by simp [tO, Nat.mod_one]
theorem tO_le (W H k : Nat) : tO W H k ≤ 38 := by
 unfold tO
 have h1 := Nat.mod_lt W (pB k)
 have h2 := Nat.mod_lt H (pB k)
 have : (W % 18446744073709551616 ^ k + 38 * (H % 18446744073709551616 ^ k)) / 18446744073709551616 ^ k < 39 := by
  rw [Nat.div_lt_iff_lt_mul (pB k)]; omega
 omega
theorem tO_eq (W H k : Nat) : (W + 38 * H) / 18446744073709551616 ^ k = tO W H k + (W / 18446744073709551616 ^ k + 38 * (H / 18446744073709551616 ^ k)) := by
 unfold tO
 generalize hM : 18446744073709551616 ^ k = M
 have hp : 0 < M := hM ▸ pB k
 conv => lhs; rw [← Nat.mod_add_div W M, ← Nat.mod_add_div H M]
 rw [show W % M + M * (W / M) + 38 * (H % M + M * (H / M)) = (W % M + 38 * (H % M)) + M * (W / M + 38 * (H / M)) by
  rw [Nat.mul_add M, Nat.mul_left_comm M 38]; omega]
 rw [Nat.add_mul_div_left _ _ hp]
theorem tO_limb (W H k : Nat) : limb (W + 38 * H) k = (limb H k * 38 + limb W k + tO W H k) % 18446744073709551616 := by
 unfold limb; rw [tO_eq]; omega
theorem tO_step (W H k : Nat) : tO W H (k + 1) = (limb H k * 38 + limb W k + tO W H k) / 18446744073709551616 := by
 have h : tO W H (k + 1) = (W % 18446744073709551616 ^ k + 38 * (H % 18446744073709551616 ^ k) + 18446744073709551616 ^ k * (limb W k + 38 * limb H k)) / 18446744073709551616 ^ (k + 1) := by
  unfold tO; rw [mod_limb, mod_limb, Nat.mul_add (18446744073709551616 ^ k), Nat.mul_left_comm (18446744073709551616 ^ k) 38]; congr 1; omega
 rw [h, Nat.pow_succ, ← Nat.div_div_eq_div_mul, Nat.add_mul_div_left _ _ (pB k)]
 unfold tO; congr 1; omega
theorem limb_hi (n k : Nat) : limb n (k + 4) = limb (n / 18446744073709551616 ^ 4) k := by
 unfold limb; rw [Nat.div_div_eq_div_mul, ← Nat.pow_add, Nat.add_comm 4 k]
theorem limb_lo (n k : Nat) (h : k < 4) : limb n k = limb (n % 18446744073709551616 ^ 4) k := limb_low _ _ 4 k (by rw [Nat.mod_mod]) h
theorem fold_times (a b : Nat) (ha : a < 18446744073709551616 ^ 4) (hb : b < 18446744073709551616 ^ 4) :
  let S := a * b % 18446744073709551616 ^ 4 + 38 * (a * b / 18446744073709551616 ^ 4)
  S / 18446744073709551616 ^ 4 ≤ 38 ∧ redP (fold5 S) = a * b % P5 ∧ fold5 S < 18446744073709551616 ^ 4 := by
 intro S
 have hM : (18446744073709551616 : Nat) ^ 4 = 2 * P5 + 38 := by decide +kernel
 have h255 := P5_255
 have h2 : a * b / 18446744073709551616 ^ 4 < 18446744073709551616 ^ 4 := by
  rw [Nat.div_lt_iff_lt_mul (pB 4)]; exact Nat.mul_lt_mul'' ha hb
 have h1 : a * b % 18446744073709551616 ^ 4 < 18446744073709551616 ^ 4 := Nat.mod_lt _ (pB 4)
 have hS : S < 39 * 18446744073709551616 ^ 4 := by show _ + 38 * _ < _; omega
 have hq : S / 2 ^ 255 < 78 := by
  rw [Nat.div_lt_iff_lt_mul (by decide)]
  have : 39 * 18446744073709551616 ^ 4 = 78 * 2 ^ 255 := by decide +kernel
  omega
 have hr : S % 2 ^ 255 < 2 ^ 255 := Nat.mod_lt _ (by decide)
 have hP : 3000 < P5 := by decide
 have hf : fold5 S < 2 * P5 := by unfold fold5; omega
 refine ⟨?_, ?_, by omega⟩
 ·have : S / 18446744073709551616 ^ 4 < 39 := by rw [Nat.div_lt_iff_lt_mul (pB 4)]; exact hS
  omega
 ·rw [redP_mod _ hf, fold5_mod]
  have e := Nat.mod_add_div (a * b) (18446744073709551616 ^ 4)
  show (a * b % 18446744073709551616 ^ 4 + 38 * (a * b / 18446744073709551616 ^ 4)) % P5 = _
  conv => rhs; rw [← e]
  generalize a * b / 18446744073709551616 ^ 4 = q
  generalize a * b % 18446744073709551616 ^ 4 = r
  rw [hM, Nat.add_mul, Nat.mul_assoc 2, Nat.mul_left_comm 2 P5, Nat.add_comm (P5 * _), ← Nat.add_assoc, Nat.add_mul_mod_self_left]
theorem or_low (o x : Nat) (hx : x < 2) : (2 * o ||| x) = 2 * o + x := by
 have := Nat.two_pow_add_eq_or_of_lt (i := 1) (b := x) (by omega) o
 rw [Nat.pow_one] at this
 exact this.symm
theorem andNot_top (x : Nat) (hx : x < 18446744073709551616) : bits .andNot .u64 (x : Int) 9223372036854775808 = ((x % 9223372036854775808 : Nat) : Int) := by
 have h1 : (BitVec.ofInt 64 (x : Int)).toNat = x := by
  rw [BitVec.ofInt_natCast, BitVec.toNat_ofNat]; exact Nat.mod_eq_of_lt (by omega)
 have h2 : (~~~(BitVec.ofInt 64 9223372036854775808)).toNat = 2 ^ 63 - 1 := by decide
 show IntKind.u64.wrap ((BitVec.ofInt 64 (x : Int) &&& ~~~(BitVec.ofInt 64 9223372036854775808)).toNat : Int) = _
 rw [BitVec.toNat_and, h1, h2, Nat.and_two_pow_sub_one_eq_mod, IntKind.wrap_u64]
 omega
theorem limb3_div (a : Nat) (ha : a < 18446744073709551616 ^ 4) : limb a 3 / 9223372036854775808 = a / 2 ^ 255 := by
 unfold limb
 rw [Nat.mod_eq_of_lt (by rw [Nat.div_lt_iff_lt_mul (pB 3), ← Nat.pow_succ']; exact ha), Nat.div_div_eq_div_mul, show 18446744073709551616 ^ 3 * 9223372036854775808 = 2 ^ 255 by decide +kernel]
theorem limb3_mod (a : Nat) (ha : a < 18446744073709551616 ^ 4) : (qs 4 a).set 3 (limb a 3 % 9223372036854775808) = qs 4 (a % 2 ^ 255) := by
 have e : (2 : Nat) ^ 255 = 18446744073709551616 ^ 3 * 9223372036854775808 := by decide +kernel
 refine List.ext_getElem? fun j => ?_
 by_cases hj : j < 4
 ·rw [qs_get 4 _ j hj]
  by_cases h3 : j = 3
  ·subst h3
   rw [List.getElem?_set_self (by rw [qs_len]; decide)]
   unfold limb
   rw [Nat.mod_eq_of_lt (a := a / 18446744073709551616 ^ 3) (by rw [Nat.div_lt_iff_lt_mul (pB 3), ← Nat.pow_succ']; exact ha), e, Nat.mod_mul_right_div_self]
   congr 1
   have := Nat.mod_lt (a / 18446744073709551616 ^ 3) (show 0 < 9223372036854775808 by decide)
   omega
  ·rw [List.getElem?_set_ne (by omega), qs_get 4 _ j hj]
   refine congrArg some (limb_low _ _ 3 j ?_ (by omega))
   rw [e, Nat.mod_mul_right_mod]
 ·rw [List.getElem?_eq_none (by rw [List.length_set, qs_len]; omega), List.getElem?_eq_none (by rw [qs_len]; omega)]
end Fe
end Go.Proofs.YtbplbdnofobbiaaDoor
