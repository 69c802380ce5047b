/- the document's numbers: their bytes, their words. -/
import Derived.Test.YtbplbdnofobbiaaDoorFe12
set_option linter.unusedVariables false
set_option linter.unusedSimpArgs false
set_option maxRecDepth 100000
set_option maxHeartbeats 8000000
namespace Go.Proofs.YtbplbdnofobbiaaDoor
namespace Fe
open Go.ChangeShapes Go.WideShapes Go.ChangeAt Go.RowKit
def lw (n k : Nat) : List Nat := (List.range 4).map fun j => limb n j / 256 ^ (k - 8 * j)
theorem lw_len (n k : Nat) : (lw n k).length = 4 := by simp [lw]
theorem lw_get (n k j : Nat) (h : j < 4) : (lw n k)[j]? = some (limb n j / 256 ^ (k - 8 * j)) := by simp [lw, h]
theorem lw_0 (n : Nat) : lw n 0 = qs 4 n := by
 unfold lw qs
 apply List.map_congr_left
 intro j _
 rw [Nat.zero_sub, Nat.pow_zero, Nat.div_one]
theorem limb_zero (n j t : Nat) (h : 8 ≤ t) : limb n j / 256 ^ t = 0 := by
 refine Nat.div_eq_of_lt (Nat.lt_of_lt_of_le (limb_lt n j) ?_)
 rw [show (18446744073709551616 : Nat) = 256 ^ 8 from rfl]
 exact Nat.pow_le_pow_right (by decide) h
theorem lw_32 (n : Nat) : lw n 32 = qs 4 0 := by
 refine List.ext_getElem? fun j => ?_
 by_cases hj : j < 4
 ·rw [lw_get n 32 j hj, qs_get 4 0 j hj, limb_zero n j _ (by omega)]
  simp [limb]
 ·rw [List.getElem?_eq_none (by rw [lw_len]; omega), List.getElem?_eq_none (by rw [qs_len]; omega)]
theorem lw_step (n i : Nat) (h : i < 32) : (lw n (i + 1)).set (i / 8) (limb n (i / 8) / 256 ^ (i % 8)) = lw n i := by
 refine List.ext_getElem? fun j => ?_
 by_cases hj : j < 4
 ·rw [lw_get n i j hj]
  by_cases he : j = i / 8
  ·rw [he, List.getElem?_set_self (by rw [lw_len]; omega), show i - 8 * (i / 8) = i % 8 by omega]
  ·rw [List.getElem?_set_ne (by omega), lw_get n _ j hj]
   rcases Nat.lt_or_ge j (i / 8) with h1 | h1
   ·rw [limb_zero n j _ (by omega), limb_zero n j _ (by omega)]
   ·rw [show i + 1 - 8 * j = 0 by omega, show i - 8 * j = 0 by omega]
 ·rw [List.getElem?_eq_none (by rw [List.length_set, lw_len]; omega), List.getElem?_eq_none (by rw [lw_len]; omega)]
theorem byte_limb (n i : Nat) : limb n (i / 8) / 256 ^ (i % 8) % 256 = n / 256 ^ i % 256 := by
 unfold limb
 have e : (18446744073709551616 : Nat) = 256 ^ (i % 8) * (256 * 256 ^ (7 - i % 8)) := by
  have h : i % 8 < 8 := Nat.mod_lt _ (by decide)
  rw [show (18446744073709551616 : Nat) = 256 ^ 8 from rfl, ← Nat.pow_succ', ← Nat.pow_add]
  congr 1; omega
 have e2 : (256 : Nat) ^ i = 18446744073709551616 ^ (i / 8) * 256 ^ (i % 8) := by
  rw [show (18446744073709551616 : Nat) = 256 ^ 8 from rfl, ← Nat.pow_mul, ← Nat.pow_add, Nat.div_add_mod]
 conv => lhs; rw [show n / 18446744073709551616 ^ (i / 8) % 18446744073709551616 = n / 18446744073709551616 ^ (i / 8) % (256 ^ (i % 8) * (256 * 256 ^ (7 - i % 8))) by rw [← e]]
 rw [Nat.mod_mul_right_div_self, Nat.mod_mul_right_mod, e2, Nat.div_div_eq_div_mul]
theorem lw_val (n i : Nat) (h : i < 32) : limb n (i / 8) / 256 ^ (i % 8) = limb n (i / 8) / 256 ^ (i + 1 - 8 * (i / 8)) * 256 + n / 256 ^ i % 256 := by
 rw [← byte_limb n i, show i + 1 - 8 * (i / 8) = i % 8 + 1 by omega, Nat.pow_succ, ← Nat.div_div_eq_div_mul]
 omega
theorem bytes_any (n : Nat) (hn : n < 2 ^ 255) (w : World) :
  Calls Tryd.prog 50 #[.agg (n17 n)] w fun e w' => e = .returned (.agg (zb (bl n))) ∧ Below w.heap.size w w' := by
 have hun := Tryd.underlying29
 have hub := Tryd.underlying38
 have hzb := bZero
 have h0 := (((on_all w).alloc (.cells (n17 n) 29)).alloc (.cells (zb (List.replicate 32 0)) 38)).alloc (.cells (zb (List.replicate 32 0)) 38)
 have s0 := (((Str.refl w).alloc (.cells (n17 n) 29)).alloc (.cells (zb (List.replicate 32 0)) 38)).alloc (.cells (zb (List.replicate 32 0)) 38)
 simp only [World.size_alloc] at h0
 have H1 := hide h0
 have S1 := hide s0
 clear h0 s0
 obtain ⟨HsRb, HoRb, HzRb⟩ := b3 (bInfo (bl n) (bl_len n)) (bOne (bl n)) (bSize (List.replicate 32 0) (bl n) (by simp) (bl_len n))
 have Hbit := hide (dg_bit n)
 have Hget := hide (fun k (h : k < 17) => dvs_get _ _ _ (ds_get 17 n k h))
 have Hget : Hid (∀ k, k < 17 → (n17 n)[k]? = some (nv (dg n k))) := Hget
 have Hend := hide (show bl (n % 2 ^ 255) = bl n by rw [Nat.mod_eq_of_lt hn])
 have Hb0 := hide (show zb (bl (n % 2 ^ 0)) = zb (List.replicate 32 0) by rw [Nat.pow_zero, Nat.mod_one, bl_0])
 clear hn
 generalize hA : n17 n = An at *
 generalize hZ : zb (List.replicate 32 0) = Zb at *
 generalize hR : zb (bl n) = Rb at *
 have HR := hide hR
 clear hA hZ hR
 go_enter Tryd.func50, Tryd.ntmps50
 go_wp2_with fail
 generalize ((w.alloc (.cells An 29)).alloc (.cells Zb 38)).alloc (.cells Zb 38) = w1 at *
 go_loopw [4] (fun i wr => ∃ k : Nat, k ≤ 255 ∧ i = .int .i64 k ∧ (blk (w.heap.size + 1 + 1) (.cells (zb (bl (n % 2 ^ k))) 38 (0, 0)) * (blk (w.heap.size + 1) (.cells Zb 38 (0, 0)) * (blk w.heap.size (.cells An 29 (0, 0)) * all w))).on wr ∧ Str w wr) (fun i _ => 255 - (intOf i).toNat)
 case atStart => exact ⟨0, by omega, rfl, by rw [Hb0.out]; exact H1.out, S1.out⟩
 case round =>
  obtain ⟨k, hk, rfl, hX, hS2⟩ := hrel
  have HXk := hide hX
  have HSk := hide hS2
  clear hX hS2 H1 S1
  by_cases hlt : k < 255
  ·have hdb := bl_bit n k
   have hb := Hbit.out k
   have hcell := (cell_of_row wr w.heap.size (k / 15) _ _ _ (on_blk_mul HXk.out.right.right)).trans (Hget.out (k / 15) (by omega))
   have c1 : IntKind.i64.wrap ((k : Int) / 15) = ((k / 15 : Nat) : Int) := by rw [IntWalk.i64_in _ (by omega)]; omega
   have c2 : ((k : Int)).tmod 15 = ((k % 15 : Nat) : Int) := by rw [Int.tmod_eq_emod_of_nonneg (by omega)]; omega
   have hk17 : ((k / 15 : Nat) : Int) < 17 := by omega
   have hk255 : (k : Int) < 255 := by omega
   have hm15 : k % 15 < 15 := by omega
   generalize dg n (k / 15) = bx at *
   by_cases ht : n.testBit k = true
   ·rw [ht] at hb
    rw [if_pos ht] at hdb
    have hlb := bl_lt_bit n k
    obtain ⟨p, hp⟩ : ∃ p : Nat, p = 2 ^ (k % 8) := ⟨_, rfl⟩
    rw [← hp] at hlb hdb
    have hget := zb_get _ _ _ (bl_get (n % 2 ^ k) (k / 8) (by omega))
    have hq32 : k / 8 < 32 := by omega
    generalize hx : n % 2 ^ k / 256 ^ (k / 8) % 256 = x at *
    have hset := zb_set (bl (n % 2 ^ k)) (k / 8) (UInt8.ofNat (x + p))
    rw [← hdb] at hset
    have hp0 : 0 < p := by rw [hp]; exact Nat.pow_pos (by decide)
    have q6 : IntKind.u8.wrap (2 ^ (k % 8)) = (p : Int) := by rw [show (2 : Int) ^ (k % 8) = (p : Int) by rw [hp, Int.natCast_pow]; rfl, IntKind.wrap_u8]; omega
    have d1 : IntKind.i64.wrap ((k : Int) / 8) = ((k / 8 : Nat) : Int) := by rw [IntWalk.i64_in _ (by omega)]; omega
    have d2 : ((k : Int)).tmod 8 = ((k % 8 : Nat) : Int) := by rw [Int.tmod_eq_emod_of_nonneg (by omega)]; omega
    have q7 : IntKind.u8.wrap ((((UInt8.ofNat x).toNat : Nat) : Int) + (p : Int)) = (((UInt8.ofNat (x + p)).toNat : Nat) : Int) := by
     rw [UInt8.toNat_ofNat', UInt8.toNat_ofNat', IntKind.wrap_u8]; omega
    have hq15 : ((k / 8 : Nat) : Int) < 32 := by omega
    have hr15 : k % 8 < 8 := by omega
    have Hcl := hide hget
    have Hset := hide hset
    have Hps := hide (show k / 8 < (zb (bl (n % 2 ^ k))).size by rw [show (zb (bl (n % 2 ^ k))).size = 32 by simp [zb, vbs, bl_len]]; omega)
    have Q6 := hide q6
    have Q7 := hide q7
    have hs8 : (Tryd.prog.info? 5).map (·.size) = some 1 := by kernel_rfl
    clear hset hget q6 q7 hdb hlb ht hq32 hp hx
    generalize UInt8.ofNat (x + p) = z at *
    generalize UInt8.ofNat x = d at *
    generalize zb (bl (n % 2 ^ k)) = P1 at *
    generalize hP2 : zb (bl (n % 2 ^ (k + 1))) = P2 at *
    have HP2 := hide hP2
    clear hP2
    generalize hq : k / 8 = q at *
    generalize hm : k % 8 = m at *
    clear hq hm
    go_wp2_with fail
    refine AppK.wp_region_set 9 [isV (.int .i64 (k : Int)), isV (.int .i64 ((q : Nat) : Int)), isV (.pointer (some ⟨w.heap.size + 1 + 1, q, .none⟩)), isV (vb d), isV (.int .i64 (k : Int)), isV (.int .i64 ((m : Nat) : Int)), isV (.int .u8 (p : Int)), isV (vb z), isV (.pointer (some ⟨w.heap.size + 1 + 1, q, .none⟩)), (fun _ _ => True)]
     [isV (.int .i64 (k : Int)), isV (.int .i64 ((q : Nat) : Int)), isV (.pointer (some ⟨w.heap.size + 1 + 1, q, .none⟩)), isV (vb d), isV (.int .i64 (k : Int)), isV (.int .i64 ((m : Nat) : Int)), isV (.int .u8 (p : Int)), isV (vb z), isV (.pointer (some ⟨w.heap.size + 1 + 1, q, .none⟩)), (fun _ _ => True)] _ rfl (by kernel_rfl) (by kernel_rfl) rfl (by decide) (.inr rfl) (fun ph X => (blk (w.heap.size + 1 + 1) (.cells (if ph = true then P2 else P1) 38 (0, 0)) * (blk (w.heap.size + 1) (.cells Zb 38 (0, 0)) * (blk w.heap.size (.cells An 29 (0, 0)) * all w))).on X ∧ Str w X) ⟨SP.on.drew HXk.out, Str.drew HSk.out⟩ (fun ph a b h st => ⟨h.1.below st, h.2.trans (Str.below st)⟩) ?keep ?keep2 ?store ?todo ?r55
    case keep => exact ⟨Keep.isV _, Keep.isV _, Keep.isV _, Keep.isV _, Keep.isV _, Keep.isV _, Keep.isV _, Keep.isV _, Keep.isV _, fun _ _ _ h _ => h, trivial⟩
    case keep2 => exact ⟨Keep.isV _, Keep.isV _, Keep.isV _, Keep.isV _, Keep.isV _, Keep.isV _, Keep.isV _, Keep.isV _, Keep.isV _, fun _ _ _ h _ => h, trivial⟩
    case store =>
     intro ev X hT hb hk hf
     have e0 : ev (.tmp 26) = _ := hf.1
     have e1 : ev (.tmp 25) = _ := hf.2.1
     have hX : (blk (w.heap.size + 1 + 1) (.cells P1 38 (0, 0)) * (blk (w.heap.size + 1) (.cells Zb 38 (0, 0)) * (blk w.heap.size (.cells An 29 (0, 0)) * all w))).on X := hT.1
     exact OpOk.store_one _ _ _ rfl (w.heap.size + 1 + 1) q (vb z) e0 e1 rfl _ P1 hX hs8 Hps.out rfl P2 Hset.out (fun h3 => ⟨⟨h3, hT.2.setRow _ _⟩, trivial, fun i _ hv => vList_free (by
      intro P hP
      simp only [List.mem_cons, List.not_mem_nil, or_false] at hP
      rcases hP with rfl | rfl | rfl | rfl | rfl | rfl | rfl | rfl | rfl | rfl <;> exact fun _ _ _ h => h) i _ _ _ hv⟩)
    case todo =>
     refine ⟨?_, ?_, ?_, ?_, ?_, ?_, ?_, ?_, ?_, ?_, trivial⟩
     ·rintro _ ph - h2 ev X hT hb hk hf
      obtain rfl := h2 (by kernel_rfl)
      have e0 : ev (.tmp 4) = .int .i64 (k : Int) := hk.1
      exact OpOk.m rfl e0
     ·rintro _ ph - h2 ev X hT hb hk hf
      obtain rfl := h2 (by kernel_rfl)
      have e0 : ev (.tmp 18) = _ := hf.1
      exact OpOk.r (by simp [execOp, e0, hb.1, d1, go_sem])
     ·rintro _ ph - h2 ev X hT hb hk hf
      obtain rfl := h2 (by kernel_rfl)
      have e0 : ev (.tmp 3) = .pointer (some ⟨w.heap.size + 1 + 1, 0, .none⟩) := hk.1
      have e1 : ev (.tmp 19) = _ := hf.1
      exact OpOk.r (by simp [execOp, e0, e1, hb.1, hq15, go_sem]; try (intro h; omega))
     ·rintro _ ph - h2 ev X hT hb hk hf
      obtain rfl := h2 (by kernel_rfl)
      have e0 : ev (.tmp 20) = _ := hf.1
      have cW := (cell_of_row X (w.heap.size + 1 + 1) q _ _ _ (on_blk_mul hT.1)).trans Hcl.out
      exact OpOk.r (by simp [execOp, e0, cW, go_sem])
     ·rintro _ ph - h2 ev X hT hb hk hf
      obtain rfl := h2 (by kernel_rfl)
      have e0 : ev (.tmp 4) = .int .i64 (k : Int) := hk.1
      exact OpOk.m rfl e0
     ·rintro _ ph - h2 ev X hT hb hk hf
      obtain rfl := h2 (by kernel_rfl)
      have e0 : ev (.tmp 22) = _ := hf.1
      exact OpOk.r (by simp [execOp, e0, hb.1, d2, go_sem])
     ·rintro _ ph - h2 ev X hT hb hk hf
      obtain rfl := h2 (by kernel_rfl)
      have e0 : ev (.tmp 23) = _ := hf.1
      exact OpOk.r (by have h9 := Q6.out; simp [execOp, e0, hb.1, h9, go_sem])
     ·rintro _ ph - h2 ev X hT hb hk hf
      obtain rfl := h2 (by kernel_rfl)
      have e0 : ev (.tmp 21) = _ := hf.1
      have e1 : ev (.tmp 24) = _ := hf.2.1
      exact OpOk.r (by have h9 := Q7.out; simp [execOp, e0, e1, h9, go_sem])
     ·rintro _ ph - h2 ev X hT hb hk hf
      obtain rfl := h2 (by kernel_rfl)
      have e0 : ev (.tmp 3) = .pointer (some ⟨w.heap.size + 1 + 1, 0, .none⟩) := hk.1
      have e1 : ev (.tmp 19) = _ := hf.1
      exact OpOk.r (by simp [execOp, e0, e1, hb.1, hq15, go_sem]; try (intro h; omega))
     ·exact fun h => absurd rfl h
    intro X hT
    rintro _ - _ - _ - _ - _ - _ - _ - _ - _ - _ -
    have hX2 : (blk (w.heap.size + 1 + 1) (.cells P2 38 (0, 0)) * (blk (w.heap.size + 1) (.cells Zb 38 (0, 0)) * (blk w.heap.size (.cells An 29 (0, 0)) * all w))).on X := hT.1
    have HX2 := hide hX2
    have HST := hide hT.2
    clear hT hX2
    go_wp2
    refine Rest.done ?_
    go_wp2_with fail
    refine ⟨⟨k + 1, by omega, by simp, by rw [HP2.out]; exact HX2.out, HST.out⟩, by simp [intOf]; omega⟩
   ·have hf : n.testBit k = false := by simpa using ht
    rw [hf] at hb
    rw [if_neg ht] at hdb
    have HN := hide (show zb (bl (n % 2 ^ (k + 1))) = zb (bl (n % 2 ^ k)) from congrArg zb hdb)
    clear hdb ht hf
    go_wp2_with fail
    exact ⟨⟨k + 1, by omega, by simp, by rw [HN.out]; exact HXk.out, HSk.out⟩, by simp [intOf]; omega⟩
  ·obtain rfl : k = 255 := by omega
   rw [Hend.out, HR.out] at HXk
   have g0 := on_blk_mul HXk.out
   have gR := on_blk_mul HXk.out.right
   have HB := hide (all_below HXk.out.right.right.right HSk.out)
   go_wp2_with (first
    | (refine wS gR HsRb HzRb HoRb ?_)
    | (refine wL g0 hub HsRb ?_))
   exact retR Tryd.results50 gR hub HsRb.out rfl HB.out (by omega)
theorem limbs_any (n : Nat) (hn : n < 2 ^ 255) (w : World) :
  Calls Tryd.prog 80 #[.agg (n17 n)] w fun e w' => e = .returned (.agg (q4 n)) ∧ Below w.heap.size w w' := by
 obtain ⟨HsBb, HoBb, HzBb⟩ := b3 (bInfo (bl n) (bl_len n)) (bOne (bl n)) (bSize (List.replicate 32 0) (bl n) (by simp) (bl_len n))
 have hu6 := Tryd.underlying22
 have hu8 := Tryd.underlying5
 have hzb := bZero
 have Hget := hide (fun k (h : k < 32) => zb_get _ _ _ (bl_get n k h))
 have Hc := hide (fun X => bytes_any n hn X)
 have H32 := hide (show lvs (lw n 32) = q4 0 from congrArg lvs (lw_32 n))
 have Hl0 := hide (show lvs (lw n 0) = q4 n from congrArg lvs (lw_0 n))
 clear hn
 have hu4 := Tryd.underlying23
 have hz4 := eZero4
 have hun := Tryd.underlying29
 have hzn := nZero
 have h0 := (((on_all w).alloc (.cells (n17 (n)) 29)).alloc (.cells (q4 0) 23)).alloc (.cells (q4 0) 23)
 have s0 := (((Str.refl w).alloc (.cells (n17 (n)) 29)).alloc (.cells (q4 0) 23)).alloc (.cells (q4 0) 23)
 try simp only [World.size_alloc] at h0
 have H1 := hide h0
 have S1 := hide s0
 clear h0 s0
 obtain ⟨HsAn, HoAn, HzAn⟩ := nF (n)
 obtain ⟨HsR4, HoR4, HzR4⟩ := b3 (eInfo4 (n)) (eOne (n)) (eSize 0 (n))
 generalize zb (List.replicate 32 0) = Zb at *
 generalize zb (bl n) = Bb at *
 generalize hAn : n17 (n) = An at *
 have HAn := hide hAn
 clear hAn
 generalize hR4 : q4 (n) = R4 at *
 have HR4 := hide hR4
 clear hR4
 generalize hZ4 : q4 0 = Z4 at *
 have HZ4 := hide hZ4
 clear hZ4
 generalize hZn : n17 0 = Zn at *
 have HZn := hide hZn
 clear hZn
 go_enter Tryd.func80, Tryd.ntmps80
 have gA := on_blk_mul H1.out.right.right
 go_wp2_with (first
  | (refine wL gA hun HsAn ?_))
 clear gA
 generalize ((w.alloc (.cells An 29)).alloc (.cells Z4 23)).alloc (.cells Z4 23) = w1 at *
 refine (Hc.out _).mono ?_
 rintro e w2 ⟨rfl, hB⟩
 obtain ⟨H2, S2⟩ := nx H1.out S1.out hB
 clear hB H1 S1
 obtain ⟨gN, gM, H3, S3⟩ := newV H2.out S2.out Zb Bb 38
 go_wp2_with (first
  | (refine wS gN HsBb HzBb HoBb ?_))
 generalize (w2.alloc (.cells Zb 38)).setRow w2.heap.size Bb = w3 at *
 clear gN gM H2 S2
 generalize w2.heap.size = p5 at *
 have h4 := H3.out
 rw [SP.mul_left_comm] at h4
 have H4 := hide h4
 clear h4 H3
 go_loopw [5] (fun i wr => ∃ k : Nat, k ≤ 32 ∧ i = .int .i64 ((k : Int) - 1) ∧ (blk (w.heap.size + 1 + 1) (.cells (lvs (lw n k)) 23 (0, 0)) * (blk p5 (.cells Bb 38 (0, 0)) * (blk (w.heap.size + 1) (.cells Z4 23 (0, 0)) * (blk w.heap.size (.cells An 29 (0, 0)) * all w)))).on wr ∧ Str w wr) (fun i _ => (intOf i + 1).toNat)
 case atStart => exact ⟨32, by omega, rfl, by rw [H32.out]; exact H4.out, S3.out⟩
 case round =>
  obtain ⟨k, hk, rfl, hX, hS2⟩ := hrel
  have HXk := hide hX
  have HSk := hide hS2
  clear hX hS2 H4 S3
  cases k with
  | zero =>
   rw [Hl0.out] at HXk
   have g0 := on_blk_mul HXk.out
   have gR := on_blk_mul HXk.out.right.right
   have HB := hide (all_below HXk.out.right.right.right.right HSk.out)
   go_wp2_with (first
    | (refine wS gR HsR4 HzR4 HoR4 ?_)
    | (refine wL g0 hu4 HsR4 ?_))
   exact retR Tryd.results80 gR hu4 HsR4.out rfl HB.out (by omega)
  | succ k =>
   have hk32 : k < 32 := by omega
   have s1 : (((k + 1 : Nat) : Int) - 1) = (k : Int) := by omega
   rw [s1]
   clear s1
   have hval := lw_val n k hk32
   have hb256 : n / 256 ^ k % 256 < 256 := Nat.mod_lt _ (by decide)
   have hll := limb_lt n (k / 8)
   have hle : limb n (k / 8) / 256 ^ (k % 8) ≤ limb n (k / 8) := Nat.div_le_self _ _
   have hstep := lw_step n k hk32
   have hget := lvs_get _ _ _ (lw_get n (k + 1) (k / 8) (by omega))
   have hgb := Hget.out k hk32
   have hxn : (UInt8.ofNat (n / 256 ^ k % 256)).toNat = n / 256 ^ k % 256 := by rw [UInt8.toNat_ofNat']; omega
   rw [← hxn] at hval
   have hset := lvs_set (lw n (k + 1)) (k / 8) (limb n (k / 8) / 256 ^ (k % 8))
   rw [hstep] at hset
   have Hps := hide (show k / 8 < (lvs (lw n (k + 1))).size by rw [lvs_size, lw_len]; omega)
   have hq4 : ((k / 8 : Nat) : Int) < 4 := by omega
   have hk32' : (k : Int) < 32 := by omega
   have c1 : IntKind.i64.wrap ((k : Int) / 8) = ((k / 8 : Nat) : Int) := by rw [IntWalk.i64_in _ (by omega)]; omega
   generalize UInt8.ofNat (n / 256 ^ k % 256) = x at *
   have hx8 := UInt8.toNat_lt x
   generalize limb n (k / 8) / 256 ^ (k % 8) = z at *
   generalize limb n (k / 8) / 256 ^ (k + 1 - 8 * (k / 8)) = y at *
   have c5 : IntKind.u64.wrap ((x.toNat : Nat) : Int) = ((x.toNat : Nat) : Int) := wrapS _ (by omega)
   have q6 : IntKind.u64.wrap ((y : Int) * 256) = ((y * 256 : Nat) : Int) := by rw [IntKind.wrap_u64]; omega
   have q7 : IntKind.u64.wrap (((y * 256 : Nat) : Int) + ((x.toNat : Nat) : Int)) = (z : Int) := by rw [IntKind.wrap_u64]; omega
   generalize y * 256 = y2 at *
   have Q6 := hide q6
   have Q7 := hide q7
   have Hcl := hide hget
   have Hgb := hide hgb
   have Hset := hide hset
   have hs8 : (Tryd.prog.info? 22).map (·.size) = some 1 := by kernel_rfl
   clear hset hget q6 q7 hval hb256 hll hle hstep hgb hxn
   generalize lvs (lw n (k + 1)) = P1 at *
   generalize hP2 : lvs (lw n k) = P2 at *
   have HP2 := hide hP2
   clear hP2
   generalize k / 8 = q at *
   go_wp2_with fail
   refine AppK.wp_region_set 13 [isV (.int .i64 (k : Int)), isV (.int .i64 ((q : Nat) : Int)), isV (.int .i64 (k : Int)), isV (.int .i64 ((q : Nat) : Int)), isV (.pointer (some ⟨w.heap.size + 1 + 1, q, .none⟩)), isV (lv y), isV (lv y2), isV (.int .i64 (k : Int)), isV (.pointer (some ⟨p5, k, .none⟩)), isV (vb x), isV (lv x.toNat), isV (lv z), isV (.pointer (some ⟨w.heap.size + 1 + 1, q, .none⟩)), (fun _ _ => True)]
    [isV (.int .i64 (k : Int)), isV (.int .i64 ((q : Nat) : Int)), isV (.int .i64 (k : Int)), isV (.int .i64 ((q : Nat) : Int)), isV (.pointer (some ⟨w.heap.size + 1 + 1, q, .none⟩)), isV (lv y), isV (lv y2), isV (.int .i64 (k : Int)), isV (.pointer (some ⟨p5, k, .none⟩)), isV (vb x), isV (lv x.toNat), isV (lv z), isV (.pointer (some ⟨w.heap.size + 1 + 1, q, .none⟩)), (fun _ _ => True)] _ rfl (by kernel_rfl) (by kernel_rfl) rfl (by decide) (.inr rfl) (fun ph X => (blk (w.heap.size + 1 + 1) (.cells (if ph = true then P2 else P1) 23 (0, 0)) * (blk p5 (.cells Bb 38 (0, 0)) * (blk (w.heap.size + 1) (.cells Z4 23 (0, 0)) * (blk w.heap.size (.cells An 29 (0, 0)) * all w)))).on X ∧ Str w X) ⟨SP.on.drew HXk.out, Str.drew HSk.out⟩ (fun ph a b h st => ⟨h.1.below st, h.2.trans (Str.below st)⟩) ?keep ?keep2 ?store ?todo ?r56
   case keep => exact ⟨Keep.isV _, Keep.isV _, Keep.isV _, Keep.isV _, Keep.isV _, Keep.isV _, Keep.isV _, Keep.isV _, Keep.isV _, Keep.isV _, Keep.isV _, Keep.isV _, Keep.isV _, fun _ _ _ h _ => h, trivial⟩
   case keep2 => exact ⟨Keep.isV _, Keep.isV _, Keep.isV _, Keep.isV _, Keep.isV _, Keep.isV _, Keep.isV _, Keep.isV _, Keep.isV _, Keep.isV _, Keep.isV _, Keep.isV _, Keep.isV _, fun _ _ _ h _ => h, trivial⟩
   case store =>
    intro ev X hT hb hk hf
    have e0 : ev (.tmp 24) = _ := hf.1
    have e1 : ev (.tmp 23) = _ := hf.2.1
    have hX : (blk (w.heap.size + 1 + 1) (.cells P1 23 (0, 0)) * (blk p5 (.cells Bb 38 (0, 0)) * (blk (w.heap.size + 1) (.cells Z4 23 (0, 0)) * (blk w.heap.size (.cells An 29 (0, 0)) * all w)))).on X := hT.1
    exact OpOk.store_one _ _ _ rfl (w.heap.size + 1 + 1) q (lv z) e0 e1 rfl _ P1 hX hs8 Hps.out rfl P2 Hset.out (fun h3 => ⟨⟨h3, hT.2.setRow _ _⟩, trivial, fun i _ hv => vList_free (by
     intro P hP
     simp only [List.mem_cons, List.not_mem_nil, or_false] at hP
     rcases hP with rfl | rfl | rfl | rfl | rfl | rfl | rfl | rfl | rfl | rfl | rfl | rfl | rfl | rfl <;> exact fun _ _ _ h => h) i _ _ _ hv⟩)
   case todo =>
    refine ⟨?_, ?_, ?_, ?_, ?_, ?_, ?_, ?_, ?_, ?_, ?_, ?_, ?_, ?_, trivial⟩
    ·rintro _ ph - h2 ev X hT hb hk hf
     obtain rfl := h2 (by kernel_rfl)
     have e0 : ev (.tmp 5) = .int .i64 (k : Int) := hk.1
     exact OpOk.m rfl e0
    ·rintro _ ph - h2 ev X hT hb hk hf
     obtain rfl := h2 (by kernel_rfl)
     have e0 : ev (.tmp 12) = _ := hf.1
     exact OpOk.r (by simp [execOp, e0, hb.1, c1, go_sem])
    ·rintro _ ph - h2 ev X hT hb hk hf
     obtain rfl := h2 (by kernel_rfl)
     have e0 : ev (.tmp 5) = .int .i64 (k : Int) := hk.1
     exact OpOk.m rfl e0
    ·rintro _ ph - h2 ev X hT hb hk hf
     obtain rfl := h2 (by kernel_rfl)
     have e0 : ev (.tmp 14) = _ := hf.1
     exact OpOk.r (by simp [execOp, e0, hb.1, c1, go_sem])
    ·rintro _ ph - h2 ev X hT hb hk hf
     obtain rfl := h2 (by kernel_rfl)
     have e0 : ev (.tmp 3) = .pointer (some ⟨w.heap.size + 1 + 1, 0, .none⟩) := hk.1
     have e1 : ev (.tmp 15) = _ := hf.1
     exact OpOk.r (by simp [execOp, e0, e1, hb.1, hq4, go_sem]; try (intro h; omega))
    ·rintro _ ph - h2 ev X hT hb hk hf
     obtain rfl := h2 (by kernel_rfl)
     have e0 : ev (.tmp 16) = _ := hf.1
     have cW := (cell_of_row X (w.heap.size + 1 + 1) q _ _ _ (on_blk_mul hT.1)).trans Hcl.out
     exact OpOk.r (by simp [execOp, e0, cW, go_sem])
    ·rintro _ ph - h2 ev X hT hb hk hf
     obtain rfl := h2 (by kernel_rfl)
     have e0 : ev (.tmp 17) = _ := hf.1
     exact OpOk.r (by have h9 := Q6.out; simp [execOp, e0, hb.1, h9, go_sem])
    ·rintro _ ph - h2 ev X hT hb hk hf
     obtain rfl := h2 (by kernel_rfl)
     have e0 : ev (.tmp 5) = .int .i64 (k : Int) := hk.1
     exact OpOk.m rfl e0
    ·rintro _ ph - h2 ev X hT hb hk hf
     obtain rfl := h2 (by kernel_rfl)
     have e0 : ev (.tmp 4) = .pointer (some ⟨p5, 0, .none⟩) := hk.1
     have e1 : ev (.tmp 19) = _ := hf.1
     exact OpOk.r (by simp [execOp, e0, e1, hb.1, hk32', go_sem]; try (intro h; omega))
    ·rintro _ ph - h2 ev X hT hb hk hf
     obtain rfl := h2 (by kernel_rfl)
     have e0 : ev (.tmp 20) = _ := hf.1
     have cW := (cell_of_row X p5 k _ _ _ (on_blk_mul hT.1.right)).trans Hgb.out
     exact OpOk.r (by simp [execOp, e0, cW, go_sem])
    ·rintro _ ph - h2 ev X hT hb hk hf
     obtain rfl := h2 (by kernel_rfl)
     have e0 : ev (.tmp 21) = _ := hf.1
     exact OpOk.r (by simp [execOp, e0, hb.1, hu6, hu8, c5, go_sem])
    ·rintro _ ph - h2 ev X hT hb hk hf
     obtain rfl := h2 (by kernel_rfl)
     have e0 : ev (.tmp 18) = _ := hf.1
     have e1 : ev (.tmp 22) = _ := hf.2.1
     exact OpOk.r (by have h9 := Q7.out; simp [execOp, e0, e1, h9, go_sem])
    ·rintro _ ph - h2 ev X hT hb hk hf
     obtain rfl := h2 (by kernel_rfl)
     have e0 : ev (.tmp 3) = .pointer (some ⟨w.heap.size + 1 + 1, 0, .none⟩) := hk.1
     have e1 : ev (.tmp 13) = _ := hf.1
     exact OpOk.r (by simp [execOp, e0, e1, hb.1, hq4, go_sem]; try (intro h; omega))
    ·exact fun h => absurd rfl h
   intro X hT
   rintro _ - _ - _ - _ - _ - _ - _ - _ - _ - _ - _ - _ - _ - _ -
   have hX2 : (blk (w.heap.size + 1 + 1) (.cells P2 23 (0, 0)) * (blk p5 (.cells Bb 38 (0, 0)) * (blk (w.heap.size + 1) (.cells Z4 23 (0, 0)) * (blk w.heap.size (.cells An 29 (0, 0)) * all w)))).on X := hT.1
   have HX2 := hide hX2
   have HST := hide hT.2
   clear hT hX2
   go_wp2
   refine Rest.done ?_
   go_wp2_with fail
   refine ⟨⟨k, by omega, rfl, by rw [HP2.out]; exact HX2.out, HST.out⟩, by simp [intOf]⟩
end Fe
end Go.Proofs.YtbplbdnofobbiaaDoor
