/- MERGED. field: what is above 2^255 folded; the product. field: powers. -/
import Derived.Test.YtbplbdnofobbiaaDoorFe3
import Derived.Test.YtbplbdnofobbiaaDoorGBase
set_option linter.unusedVariables false
set_option linter.unusedSimpArgs false
set_option maxRecDepth 100000
set_option maxHeartbeats 8000000
namespace Go.Proofs.YtbplbdnofobbiaaDoor
namespace Fe
open Go.ChangeShapes Go.WideShapes Go.ChangeAt Go.RowKit
theorem folded_any (a v : Nat) (ha : a < 18446744073709551616 ^ 4) (hv : v ≤ 38) (w : World) (hT : Tab5 w) :
  Calls Tryd.prog 107 #[.agg (q4 a), lv v] w fun e w' => e = .returned (.agg (q4 (redP (a % 2 ^ 255 + 19 * (a / 2 ^ 255 + 2 * v))))) ∧ Below w.heap.size w w' := by
 have hu := Tryd.underlying25
 have hz := eZero
 have h0 := ((on_all w).alloc (.cells (q4 (a)) 25)).alloc (.cells (q4 0) 25)
 have s0 := ((Str.refl w).alloc (.cells (q4 (a)) 25)).alloc (.cells (q4 0) 25)
 try simp only [World.size_alloc] at h0
 have H1 := hide h0
 have S1 := hide s0
 clear h0 s0
 have h255 := P5_255
 have hB := P5_B
 have hq : a / 2 ^ 255 < 2 := by
  rw [Nat.div_lt_iff_lt_mul (by decide)]
  have : (18446744073709551616 : Nat) ^ 4 = 2 * 2 ^ 255 := by decide +kernel
  omega
 have hr : a % 2 ^ 255 < 2 ^ 255 := Nat.mod_lt _ (by decide)
 have hP : 3000 < P5 := by decide
 have Hc := hide (fun X => more_any (a % 2 ^ 255) (19 * (a / 2 ^ 255 + 2 * v)) (by omega) (by omega) X)
 have Hd := hide (fun X h => reduced_any (a % 2 ^ 255 + 19 * (a / 2 ^ 255 + 2 * v)) (by omega) X h)
 have l3 := limb_lt a 3
 have d3 := limb3_div a ha
 have m3 := limb3_mod a ha
 have Hcell : Hid ((q4 a)[3]? = some (lv (limb a 3))) := hide (lvs_get _ 3 _ (qs_get 4 a 3 (by decide)))
 have Hset := hide (show (q4 a).setIfInBounds 3 (lv (limb a 3 % 9223372036854775808)) = q4 (a % 2 ^ 255) by rw [show q4 a = lvs (qs 4 a) from rfl, lvs_set, m3])
 have Q1 := hide (andNot_top (limb a 3) l3)
 have Q2 := hide (show IntKind.u64.wrap (bits .or .u64 ((v : Int) * 2) (((limb a 3 : Nat) : Int) / 9223372036854775808) * 19) = ((19 * (a / 2 ^ 255 + 2 * v) : Nat) : Int) by
  rw [show (v : Int) * 2 = ((2 * v : Nat) : Int) by omega, show ((limb a 3 : Nat) : Int) / 9223372036854775808 = ((limb a 3 / 9223372036854775808 : Nat) : Int) by omega,
   bits_or_u64_nat _ _ (by omega) (by omega), d3, or_low _ _ hq, IntKind.wrap_u64]
  omega)
 have Hab := hide (show a / 2 ^ 255 + 2 * v < 100 by omega)
 clear m3 d3 hr hP h255 hB ha hq
 generalize limb a 3 = x at *
 generalize a / 2 ^ 255 + 2 * v = ab at *
 obtain ⟨HsA4, HoA4, HzA4⟩ := eF (a)
 obtain ⟨HsB4, HoB4, HzB4⟩ := eF (a % 2 ^ 255)
 obtain ⟨HsC4, HoC4, HzC4⟩ := eF (19 * ab)
 obtain ⟨HsM4, HoM4, HzM4⟩ := eF (a % 2 ^ 255 + 19 * ab)
 obtain ⟨HsR4, HoR4, HzR4⟩ := b3 (eInfo (redP (a % 2 ^ 255 + 19 * ab))) (eOne (redP (a % 2 ^ 255 + 19 * ab))) (eSize 0 (redP (a % 2 ^ 255 + 19 * ab)))
 generalize hA4 : q4 (a) = A4 at *
 have HA4 := hide hA4
 clear hA4
 generalize hB4 : q4 (a % 2 ^ 255) = B4 at *
 have HB4 := hide hB4
 clear hB4
 generalize hC4 : q4 (19 * ab) = C4 at *
 have HC4 := hide hC4
 clear hC4
 generalize hM4 : q4 (a % 2 ^ 255 + 19 * ab) = M4 at *
 have HM4 := hide hM4
 clear hM4
 generalize hR4 : q4 (redP (a % 2 ^ 255 + 19 * ab)) = R4 at *
 have HR4 := hide hR4
 clear hR4
 generalize hZ4 : q4 0 = Z4 at *
 have HZ4 := hide hZ4
 clear hZ4
 go_enter Tryd.func107, Tryd.ntmps107
 have hcell := (cell_of_row ((w.alloc (.cells A4 25)).alloc (.cells Z4 25)) (w.heap.size) 3 _ _ _ (on_blk_mul H1.out.right)).trans Hcell.out
 have hfr := frozen_of_row ((w.alloc (.cells A4 25)).alloc (.cells Z4 25)) (w.heap.size) 3 _ _ (on_blk_mul H1.out.right)
 have e9 : A4.setIfInBounds 3 (.int .u64 (bits .andNot .u64 (x : Int) 9223372036854775808)) = B4 := by rw [Q1.out]; exact Hset.out
 have h2 := ((on_all w).alloc (.cells (A4.setIfInBounds 3 (.int .u64 (bits .andNot .u64 (x : Int) 9223372036854775808))) 25)).alloc (.cells Z4 25)
 simp only [World.size_alloc] at h2
 rw [SP.mul_left_comm] at h2
 have H2 : Hid ((blk w.heap.size (.cells B4 25 (0, 0)) * (blk (w.heap.size + 1) (.cells Z4 25 (0, 0)) * all w)).on ((w.alloc (.cells (A4.setIfInBounds 3 (.int .u64 (bits .andNot .u64 (x : Int) 9223372036854775808))) 25)).alloc (.cells Z4 25))) := hide (by rw [← e9]; exact h2)
 have S2 := hide (((Str.refl w).alloc (.cells (A4.setIfInBounds 3 (.int .u64 (bits .andNot .u64 (x : Int) 9223372036854775808))) 25)).alloc (.cells Z4 25))
 have gB := on_blk_mul H2.out
 clear h2 e9
 go_wp2_with (first
  | (refine wL gB hu HsB4 ?_)
  | (refine bn4 rfl _ rfl (19 * ab) (congrArg (Value.int .u64) Q2.out) (by have := Hab.out; omega) C4 HC4.out ?_))
 generalize (w.alloc (.cells (A4.setIfInBounds 3 (.int .u64 (bits .andNot .u64 (x : Int) 9223372036854775808))) 25)).alloc (.cells Z4 25) = w2 at *
 clear gB hcell hfr H1 S1
 refine (Hc.out _).mono ?_
 rintro e w3 ⟨rfl, hB⟩
 obtain ⟨H3, S3⟩ := nx H2.out S2.out hB
 clear hB H2 S2
 have H4 := hide (st0 H3.out (cs := M4))
 have S4 := hide (S3.out.setRow (w.heap.size) M4)
 have gW := on_blk_mul H3.out
 have gM := on_blk_mul H4.out
 go_wp2_with (first
  | (refine wS gW HsM4.out (HzB4.out.symm.trans HzM4.out) HoM4.out ?_)
  | (refine wL gM hu HsM4 ?_))
 clear gM
 generalize w3.setRow (w.heap.size) M4 = w4 at *
 clear gW H3 S3
 refine (Hd.out _ (hT.below (all_below H4.out.right.right S4.out))).mono ?_
 rintro e w5 ⟨rfl, hB⟩
 obtain ⟨H5, S5⟩ := nx H4.out S4.out hB
 clear hB H4 S4
 have gR := on_blk_mul H5.out.right
 have HB := hide (all_below H5.out.right.right S5.out)
 go_wp2_with (first
  | (refine wS gR HsR4 HzR4 HoR4 ?_))
 exact retR Tryd.results107 gR hu HsR4.out rfl HB.out (by omega)
theorem fold_split (S : Nat) : S % 18446744073709551616 ^ 4 % 2 ^ 255 + 19 * (S % 18446744073709551616 ^ 4 / 2 ^ 255 + 2 * (S / 18446744073709551616 ^ 4)) = fold5 S := by
 have e : (18446744073709551616 : Nat) ^ 4 = 2 ^ 255 * 2 := by decide +kernel
 rw [e, Nat.mod_mul_right_mod, Nat.mod_mul_right_div_self, ← Nat.div_div_eq_div_mul]
 unfold fold5
 generalize S / 2 ^ 255 = q
 omega
theorem q4_mod (S : Nat) : q4 (S % 18446744073709551616 ^ 4) = q4 S := by
 refine congrArg lvs ?_
 unfold qs
 apply List.map_congr_left
 intro i hi
 exact limb_low _ _ 4 i (by rw [Nat.mod_mod]) (List.mem_range.1 hi)
theorem tO_end (W H : Nat) (hW : W < 18446744073709551616 ^ 4) (hH : H < 18446744073709551616 ^ 4) : tO W H 4 = (W + 38 * H) / 18446744073709551616 ^ 4 := by
 unfold tO; rw [Nat.mod_eq_of_lt hW, Nat.mod_eq_of_lt hH]
theorem times_any (a b : Nat) (ha : a < 18446744073709551616 ^ 4) (hb : b < 18446744073709551616 ^ 4) (w : World) (hT : Tab5 w) :
  Calls Tryd.prog 91 #[.agg (q4 a), .agg (q4 b)] w fun e w' => e = .returned (.agg (q4 (a * b % P5))) ∧ Below w.heap.size w w' := by
 have hu := Tryd.underlying25
 have hz := eZero
 have h0 := (((on_all w).alloc (.cells (q4 (a)) 25)).alloc (.cells (q4 (b)) 25)).alloc (.cells (q4 0) 25)
 have s0 := (((Str.refl w).alloc (.cells (q4 (a)) 25)).alloc (.cells (q4 (b)) 25)).alloc (.cells (q4 0) 25)
 try simp only [World.size_alloc] at h0
 have H1 := hide h0
 have S1 := hide s0
 clear h0 s0
 obtain ⟨S, hS⟩ : ∃ S, S = a * b % 18446744073709551616 ^ 4 + 38 * (a * b / 18446744073709551616 ^ 4) := ⟨_, rfl⟩
 obtain ⟨f1, f2, f3⟩ := fold_times a b ha hb
 rw [← hS] at f1 f2
 have h1 : a * b % 18446744073709551616 ^ 4 < 18446744073709551616 ^ 4 := Nat.mod_lt _ (pB 4)
 have h2 : a * b / 18446744073709551616 ^ 4 < 18446744073709551616 ^ 4 := by
  rw [Nat.div_lt_iff_lt_mul (pB 4)]; exact Nat.mul_lt_mul'' ha hb
 have Hend := hide (show tO (a * b % 18446744073709551616 ^ 4) (a * b / 18446744073709551616 ^ 4) 4 = S / 18446744073709551616 ^ 4 by rw [tO_end _ _ h1 h2, hS])
 have Hd : Hid (∀ X, Tab5 X → Calls Tryd.prog 107 #[.agg (q4 S), lv (S / 18446744073709551616 ^ 4)] X fun e w' => e = .returned (.agg (q4 (a * b % P5))) ∧ Below X.heap.size X w') := hide fun X h => by
  have := folded_any (S % 18446744073709551616 ^ 4) (S / 18446744073709551616 ^ 4) (Nat.mod_lt _ (pB 4)) f1 X h
  rwa [fold_split, f2, q4_mod] at this
 have Hc := hide (fun X => wide_any a b ha hb X)
 have hu8 := Tryd.underlying141
 have hz8 : ∀ w, (zeroValue 141).run Tryd.prog w = .ok (.agg (q8 0)) w := fun w => by kernel_rfl
 have HsW8 : Hid ((Tryd.prog.info? 141).map (·.size) = some (q8 (a * b)).size) := hide (by rw [q8_size]; kernel_rfl)
 have HoW8 : Hid ((q8 (a * b)).all (·.oneCell') = true) := hide (lvs_one _)
 have HzW8 : Hid ((q8 0).size = (q8 (a * b)).size) := hide (by rw [q8_size, q8_size])
 have Hlo := hide (fun k (h : k < 4) => (lvs_get _ _ _ (qs_get 8 (a * b) k (by omega))).trans (congrArg (fun x => some (lv x)) (limb_lo (a * b) k h)))
 have Hhi := hide (fun k (h : k < 4) => (lvs_get _ _ _ (qs_get 8 (a * b) (k + 4) (by omega))).trans (congrArg (fun x => some (lv x)) (limb_hi (a * b) k)))
 have Hlo : Hid (∀ k, k < 4 → (q8 (a * b))[k]? = some (lv (limb (a * b % 18446744073709551616 ^ 4) k))) := Hlo
 have Hhi : Hid (∀ k, k < 4 → (q8 (a * b))[k + 4]? = some (lv (limb (a * b / 18446744073709551616 ^ 4) k))) := Hhi
 generalize q8 (a * b) = W8 at *
 generalize hZ8 : q8 0 = Z8 at *
 clear f1 f2 f3 h1 h2 ha hb hZ8
 generalize a * b % 18446744073709551616 ^ 4 = lo at *
 generalize a * b / 18446744073709551616 ^ 4 = hi at *
 have HS := hide hS
 clear hS
 obtain ⟨HsA4, HoA4, HzA4⟩ := eF (a)
 obtain ⟨HsB4, HoB4, HzB4⟩ := eF (b)
 obtain ⟨HsR4, HoR4, HzR4⟩ := eF (a * b % P5)
 generalize hA4 : q4 (a) = A4 at *
 have HA4 := hide hA4
 clear hA4
 generalize hB4 : q4 (b) = B4 at *
 have HB4 := hide hB4
 clear hB4
 generalize hR4 : q4 (a * b % P5) = R4 at *
 have HR4 := hide hR4
 clear hR4
 generalize hZ4 : q4 0 = Z4 at *
 have HZ4 := hide hZ4
 clear hZ4
 go_enter Tryd.func91, Tryd.ntmps91
 have g0 := on_blk_mul H1.out
 have g1 := on_blk_mul H1.out.right
 have g2 := on_blk_mul H1.out.right.right
 go_wp2_with (first
  | (refine wL g1 hu HsB4 ?_)
  | (refine wL g2 hu HsA4 ?_))
 clear g0 g1 g2
 generalize ((w.alloc (.cells A4 25)).alloc (.cells B4 25)).alloc (.cells Z4 25) = w1 at *
 refine (Hc.out _).mono ?_
 rintro e w2 ⟨rfl, hB⟩
 obtain ⟨H2, S2⟩ := nx H1.out S1.out hB
 clear hB H1 S1
 obtain ⟨gN, gM, H3, S3⟩ := newV H2.out S2.out Z8 W8 141
 have h4 := H3.out.alloc (.cells Z4 25)
 rw [show ((w2.alloc (.cells Z8 141)).setRow w2.heap.size W8).heap.size = w2.heap.size + 1 by simp] at h4
 have H4 := hide h4
 have S4 := hide (S3.out.alloc (.cells Z4 25))
 clear h4 gM
 go_wp2_with (first
  | (refine wS gN HsW8 HzW8 HoW8 ?_))
 generalize (w2.alloc (.cells Z8 141)).setRow w2.heap.size W8 = w3 at *
 generalize w2.heap.size = p5 at *
 clear gN H3 S3 H2 S2
 generalize w3.alloc (.cells Z4 25) = w4 at *
 go_loopw [7, 12] (fun ov i wr => ∃ k : Nat, k ≤ 4 ∧ i = .int .i64 k ∧ ov = lv (tO lo hi k) ∧ (blk (p5 + 1) (.cells (lvs ((qs 4 S).take k ++ (List.replicate 4 0).drop k)) 25 (0, 0)) * (blk p5 (.cells W8 141 (0, 0)) * (blk (w.heap.size + 1 + 1) (.cells Z4 25 (0, 0)) * (blk (w.heap.size + 1) (.cells B4 25 (0, 0)) * (blk w.heap.size (.cells A4 25 (0, 0)) * all w))))).on wr ∧ Str w wr) (fun _ i _ => 4 - (intOf i).toNat)
 case atStart =>
  refine ⟨0, by omega, rfl, by rw [tO_0]; rfl, ?_, S4.out⟩
  have := H4.out
  rw [← HZ4.out] at this ⊢
  rw [show (qs 4 S).take 0 ++ (List.replicate 4 0).drop 0 = qs 4 0 by rw [qz]; rfl]
  exact this
 case round =>
  obtain ⟨k, hk, rfl, rfl, hX, hS2⟩ := hrel
  have HXk := hide hX
  have HSk := hide hS2
  clear hX hS2 H4 S4
  by_cases hlt : k < 4
  ·have hstep := tO_step lo hi k
   have hsub := tO_limb lo hi k
   rw [← HS.out] at hsub
   have Hset := hide (set_takeN (qs 4 S) (List.replicate 4 0) k (limb S k) (qs_get 4 S k hlt) (by simp; omega))
   have HcA : Hid (∀ X, (blk p5 (.cells W8 141 (0, 0)) * (blk (w.heap.size + 1 + 1) (.cells Z4 25 (0, 0)) * (blk (w.heap.size + 1) (.cells B4 25 (0, 0)) * (blk w.heap.size (.cells A4 25 (0, 0)) * all w)))).on X → X.cell? ⟨p5, k, .none⟩ = some (lv (limb lo k))) := hide fun X hX => by rw [cell_of_row X p5 k W8 _ _ (on_blk_mul hX)]; exact Hlo.out k hlt
   have HcB : Hid (∀ X, (blk p5 (.cells W8 141 (0, 0)) * (blk (w.heap.size + 1 + 1) (.cells Z4 25 (0, 0)) * (blk (w.heap.size + 1) (.cells B4 25 (0, 0)) * (blk w.heap.size (.cells A4 25 (0, 0)) * all w)))).on X → X.cell? ⟨p5, k + 4, .none⟩ = some (lv (limb hi k))) := hide fun X hX => by rw [cell_of_row X p5 (k + 4) W8 _ _ (on_blk_mul hX)]; exact Hhi.out k hlt
   have hcall := fun X => grown_any (limb hi k) 38 (limb lo k) (tO lo hi k) (limb_lt _ _) (by omega) (limb_lt _ _) (by have := tO_le lo hi k; omega) X
   rw [← hsub, ← hstep] at hcall
   have Hcall := hide hcall
   have hpl := part_len (qs 4 S) (qs_len 4 S) k hk
   obtain ⟨pl, hpl2⟩ : ∃ pl, pl = (qs 4 S).take k ++ (List.replicate 4 0).drop k := ⟨_, rfl⟩
   rw [← hpl2] at hpl HXk Hset
   obtain ⟨P1, hP1⟩ : ∃ P1, P1 = lvs pl := ⟨_, rfl⟩
   obtain ⟨P2, hP2⟩ : ∃ P2, P2 = lvs (pl.set k (limb S k)) := ⟨_, rfl⟩
   have Hp2 := hide (show P1.setIfInBounds k (lv (limb S k)) = P2 by rw [hP1, hP2, lvs_set])
   have HP2 := hide (show P2 = lvs ((qs 4 S).take (k + 1) ++ (List.replicate 4 0).drop (k + 1)) by rw [hP2, Hset.out])
   have Hps := hide (show k < P1.size by rw [hP1, lvs_size]; omega)
   have hs8 : (Tryd.prog.info? 22).map (·.size) = some 1 := by kernel_rfl
   rw [← hP1] at HXk
   clear hsub hcall hpl hpl2 hstep hP1 hP2 Hset
   generalize limb lo k = c at *
   generalize limb hi k = x at *
   generalize tO lo hi k = ov at *
   generalize hov2 : tO lo hi (k + 1) = ov2 at *
   have Hov2 := hide hov2
   clear hov2
   generalize limb S k = dk at *
   have hk4 : (k : Int) < 4 := by omega
   have hk8 : (k : Int) < 8 := by omega
   have hk48 : ((k + 4 : Nat) : Int) < 8 := by omega
   have c4 : IntKind.i64.wrap ((k : Int) + 4) = ((k + 4 : Nat) : Int) := by rw [IntWalk.i64_in _ (by omega)]; omega
   generalize k + 4 = m4 at *
   go_wp2_with fail
   refine AppK.wp_region_set 15 [isV (.int .i64 (k : Int)), isV (.int .i64 (k : Int)), isV (.int .i64 ((m4 : Nat) : Int)), isV (.pointer (some ⟨p5, m4, .none⟩)), isV (lv x), isV (.int .i64 (k : Int)), isV (.pointer (some ⟨p5, k, .none⟩)), isV (lv c), isV (lv ov), isV (.tuple #[lv ov2, lv dk]), isV (.tuple #[lv ov2, lv dk]), isV (lv ov2), isV (lv dk), isV (lv ov2), isV (.pointer (some ⟨p5 + 1, k, .none⟩)), (fun _ _ => True)]
    [isV (.int .i64 (k : Int)), isV (.int .i64 (k : Int)), isV (.int .i64 ((m4 : Nat) : Int)), isV (.pointer (some ⟨p5, m4, .none⟩)), isV (lv x), isV (.int .i64 (k : Int)), isV (.pointer (some ⟨p5, k, .none⟩)), isV (lv c), isV (lv ov), isV (.tuple #[lv ov2, lv dk]), isV (.tuple #[lv ov2, lv dk]), isV (lv ov2), isV (lv dk), isV (lv ov2), isV (.pointer (some ⟨p5 + 1, k, .none⟩)), (fun _ _ => True)] _ rfl (by kernel_rfl) (by kernel_rfl) rfl (by decide) (.inr rfl) (fun ph X => (blk (p5 + 1) (.cells (if ph = true then P2 else P1) 25 (0, 0)) * (blk p5 (.cells W8 141 (0, 0)) * (blk (w.heap.size + 1 + 1) (.cells Z4 25 (0, 0)) * (blk (w.heap.size + 1) (.cells B4 25 (0, 0)) * (blk w.heap.size (.cells A4 25 (0, 0)) * all w))))).on X ∧ Str w X) ⟨SP.on.drew HXk.out, Str.drew HSk.out⟩ (fun ph a b h st => ⟨h.1.below st, h.2.trans (Str.below st)⟩) ?keep ?keep2 ?store ?todo ?r62
   case keep => exact ⟨Keep.isV _, Keep.isV _, Keep.isV _, Keep.isV _, Keep.isV _, Keep.isV _, Keep.isV _, Keep.isV _, Keep.isV _, Keep.isV _, Keep.isV _, Keep.isV _, Keep.isV _, Keep.isV _, Keep.isV _, fun _ _ _ h _ => h, trivial⟩
   case keep2 => exact ⟨Keep.isV _, Keep.isV _, Keep.isV _, Keep.isV _, Keep.isV _, Keep.isV _, Keep.isV _, Keep.isV _, Keep.isV _, Keep.isV _, Keep.isV _, Keep.isV _, Keep.isV _, Keep.isV _, Keep.isV _, fun _ _ _ h _ => h, trivial⟩
   case store =>
    intro ev X hT hb hk hf
    have e0 : ev (.tmp 28) = _ := hf.1
    have e1 : ev (.tmp 27) = _ := hf.2.1
    have hX : (blk (p5 + 1) (.cells P1 25 (0, 0)) * (blk p5 (.cells W8 141 (0, 0)) * (blk (w.heap.size + 1 + 1) (.cells Z4 25 (0, 0)) * (blk (w.heap.size + 1) (.cells B4 25 (0, 0)) * (blk w.heap.size (.cells A4 25 (0, 0)) * all w))))).on X := hT.1
    exact OpOk.store_one _ _ _ rfl (p5 + 1) k (lv dk) e0 e1 rfl _ P1 hX hs8 Hps.out rfl P2 Hp2.out (fun h3 => ⟨⟨h3, hT.2.setRow _ _⟩, trivial, fun i _ hv => vList_free (by
     intro P hP
     simp only [List.mem_cons, List.not_mem_nil, or_false] at hP
     rcases hP with rfl | rfl | rfl | rfl | rfl | rfl | rfl | rfl | rfl | rfl | rfl | rfl | rfl | rfl | rfl | rfl <;> exact fun _ _ _ h => h) i _ _ _ hv⟩)
   case todo =>
    refine ⟨?_, ?_, ?_, ?_, ?_, ?_, ?_, ?_, ?_, ?_, ?_, ?_, ?_, ?_, ?_, ?_, trivial⟩
    ·rintro _ ph - h2 ev X hT hb hk hf
     obtain rfl := h2 (by kernel_rfl)
     have e0 : ev (.tmp 8) = .int .i64 (k : Int) := hk.1
     exact OpOk.m rfl e0
    ·rintro _ ph - h2 ev X hT hb hk hf
     obtain rfl := h2 (by kernel_rfl)
     have e0 : ev (.tmp 8) = .int .i64 (k : Int) := hk.1
     exact OpOk.m rfl e0
    ·rintro _ ph - h2 ev X hT hb hk hf
     obtain rfl := h2 (by kernel_rfl)
     have e0 : ev (.tmp 17) = _ := hf.1
     exact OpOk.r (by simp [execOp, e0, hb.1, c4, go_sem])
    ·rintro _ ph - h2 ev X hT hb hk hf
     obtain rfl := h2 (by kernel_rfl)
     have e0 : ev (.tmp 5) = .pointer (some ⟨p5, 0, .none⟩) := hk.1
     have e1 : ev (.tmp 18) = _ := hf.1
     exact OpOk.r (by simp [execOp, e0, e1, hk48, go_sem]; try (intro h; omega))
    ·rintro _ ph - h2 ev X hT hb hk hf
     obtain rfl := h2 (by kernel_rfl)
     have e0 : ev (.tmp 19) = _ := hf.1
     have cW := HcB.out X hT.1.right
     exact OpOk.r (by simp [execOp, e0, cW, go_sem])
    ·rintro _ ph - h2 ev X hT hb hk hf
     obtain rfl := h2 (by kernel_rfl)
     have e0 : ev (.tmp 8) = .int .i64 (k : Int) := hk.1
     exact OpOk.m rfl e0
    ·rintro _ ph - h2 ev X hT hb hk hf
     obtain rfl := h2 (by kernel_rfl)
     have e0 : ev (.tmp 5) = .pointer (some ⟨p5, 0, .none⟩) := hk.1
     have e1 : ev (.tmp 21) = _ := hf.1
     exact OpOk.r (by simp [execOp, e0, e1, hb.1, hk8, go_sem]; try (intro h; omega))
    ·rintro _ ph - h2 ev X hT hb hk hf
     obtain rfl := h2 (by kernel_rfl)
     have e0 : ev (.tmp 22) = _ := hf.1
     have cW := HcA.out X hT.1.right
     exact OpOk.r (by simp [execOp, e0, cW, go_sem])
    ·rintro _ ph - h2 ev X hT hb hk hf
     obtain rfl := h2 (by kernel_rfl)
     have e0 : ev (.tmp 7) = lv ov := by have h9 := hk.1; rw [if_pos (by kernel_rfl)] at h9; exact h9
     exact OpOk.m rfl e0
    ·rintro _ ph - h2 ev X hT hb hk hf
     obtain rfl := h2 (by kernel_rfl)
     have e0 : ev (.tmp 20) = _ := hf.1
     have e1 : ev (.tmp 23) = _ := hf.2.1
     have e2 : ev (.tmp 24) = _ := hf.2.2.1
     refine OpOk.enters (f := 106) (args := #[lv x, lv 38, lv c, lv ov]) (W' := X) (by simp [execOp, resolve, invoke, e0, e1, e2, hb.1, hb.2.1, go_sem]) ((Hcall.out X).mono ?_)
     rintro e _ ⟨rfl, rfl⟩
     exact ⟨_, rfl, rfl, Stay.refl _⟩
    ·rintro _ ph - h2 ev X hT hb hk hf
     obtain rfl := h2 (by kernel_rfl)
     have e0 : ev (.tmp 25) = _ := hf.1
     exact OpOk.m rfl e0
    ·rintro _ ph - h2 ev X hT hb hk hf
     obtain rfl := h2 (by kernel_rfl)
     have e0 : ev (.tmp 15) = _ := hf.1
     exact OpOk.r (by simp [execOp, e0, hb.1, go_sem])
    ·rintro _ ph - h2 ev X hT hb hk hf
     obtain rfl := h2 (by kernel_rfl)
     have e0 : ev (.tmp 15) = _ := hf.1
     exact OpOk.r (by simp [execOp, e0, hb.1, go_sem])
    ·rintro _ ph - h2 ev X hT hb hk hf
     obtain rfl := h2 (by kernel_rfl)
     have e0 : ev (.tmp 26) = _ := hf.1
     exact OpOk.assign rfl e0 ⟨rfl, Stay.refl _⟩
    ·rintro _ ph - h2 ev X hT hb hk hf
     obtain rfl := h2 (by kernel_rfl)
     have e0 : ev (.tmp 6) = .pointer (some ⟨p5 + 1, 0, .none⟩) := hk.1
     have e1 : ev (.tmp 16) = _ := hf.1
     exact OpOk.r (by simp [execOp, e0, e1, hb.1, hk4, go_sem]; try (intro h; omega))
    ·exact fun h => absurd rfl h
   intro X hT
   rintro _ - _ - _ - _ - _ - _ - _ - _ - _ - _ - _ - _ - _ - _ rfl _ - _ -
   have hX2 : (blk (p5 + 1) (.cells P2 25 (0, 0)) * (blk p5 (.cells W8 141 (0, 0)) * (blk (w.heap.size + 1 + 1) (.cells Z4 25 (0, 0)) * (blk (w.heap.size + 1) (.cells B4 25 (0, 0)) * (blk w.heap.size (.cells A4 25 (0, 0)) * all w))))).on X := hT.1
   have HX2 := hide hX2
   have HST := hide hT.2
   clear hT hX2
   go_wp2
   refine Rest.done ?_
   go_wp2_with fail
   refine ⟨⟨k + 1, by omega, by simp, by rw [Hov2.out], by rw [← HP2.out]; exact HX2.out, HST.out⟩, by simp [intOf]; omega⟩
  ·obtain rfl : k = 4 := by omega
   have e4 : (qs 4 S).take 4 ++ (List.replicate 4 0).drop 4 = qs 4 S := by rw [List.take_of_length_le (by rw [qs_len]; omega)]; simp
   rw [e4] at HXk
   have gL := on_blk_mul HXk.out
   have HsL := hide (eInfo S)
   rw [show lvs (qs 4 S) = q4 S from rfl] at gL
   rw [Hend.out]
   generalize q4 S = L4 at *
   generalize S / 18446744073709551616 ^ 4 = vv at *
   clear e4
   go_wp2_with (refine wL gL hu HsL ?_)
   refine (Hd.out _ (hT.below (all_below HXk.out.right.right.right.right.right HSk.out))).mono ?_
   rintro e w6 ⟨rfl, hB⟩
   obtain ⟨H6, S6⟩ := nx HXk.out HSk.out hB
   clear hB gL
   have gR := on_blk_mul H6.out.right.right
   have HB := hide (all_below H6.out.right.right.right.right.right S6.out)
   go_wp2_with (refine wS gR HsR4 HzR4 HoR4 ?_)
   exact retR Tryd.results91 gR hu HsR4.out rfl HB.out (by omega)
end Fe
end Go.Proofs.YtbplbdnofobbiaaDoor
namespace Go.Proofs.YtbplbdnofobbiaaDoor
namespace Fe
open Go.ChangeShapes Go.WideShapes Go.ChangeAt Go.RowKit
theorem eZero4 (w : World) : (zeroValue 23).run Tryd.prog w = .ok (.agg (q4 0)) w := by rw [qz4]; kernel_rfl
theorem bit_eq (e m : Nat) : (bits .and .u64 (((limb e (m / 64) : Nat) : Int) / 2 ^ (m % 64)) 1 == 1) = e.testBit m := by
 have hT := testBit_limb e m
 have hb := bit_and (limb e (m / 64)) (m % 64) (limb_lt _ _)
 rw [hT] at hb
 have e3 : ((limb e (m / 64) : Nat) : Int) / 2 ^ (m % 64) = ((limb e (m / 64) / 2 ^ (m % 64) : Nat) : Int) := by rw [Int.natCast_ediv, Int.natCast_pow]; rfl
 rw [e3, hb]
 cases e.testBit m <;> rfl
theorem power_any (a e : Nat) (ha : a < 18446744073709551616 ^ 4) (he : e < 18446744073709551616 ^ 4) (w : World) (hT : Tab5 w) :
  Calls Tryd.prog 95 #[.agg (q4 a), .agg (q4 e)] w fun e' w' => e' = .returned (.agg (q4 (pwr a e 256))) ∧ Below w.heap.size w w' := by
 have hu := Tryd.underlying25
 have hz4e := eZero
 have hu4 := Tryd.underlying23
 have hz4 := eZero4
 have h0 := (((on_all w).alloc (.cells (q4 (a)) 25)).alloc (.cells (q4 (e)) 23)).alloc (.cells (q4 0) 25)
 have s0 := (((Str.refl w).alloc (.cells (q4 (a)) 25)).alloc (.cells (q4 (e)) 23)).alloc (.cells (q4 0) 25)
 try simp only [World.size_alloc] at h0
 have H1 := hide h0
 have S1 := hide s0
 clear h0 s0
 have Hc := hide (fun X => small_any 1 (by decide) X)
 have Hcell : Hid (∀ m, m < 256 → (q4 e)[m / 64]? = some (lv (limb e (m / 64)))) := hide fun m hm => lvs_get _ _ _ (qs_get 4 e _ (by omega))
 have Ha := hide ha
 have HI := hide eInfo
 clear ha he
 obtain ⟨HsA4, HoA4, HzA4⟩ := eF (a)
 obtain ⟨HsE4, HoE4, HzE4⟩ := b3 (eInfo4 (e)) (eOne (e)) (eSize 0 (e))
 obtain ⟨HsI4, HoI4, HzI4⟩ := eF (1)
 generalize hA4 : q4 (a) = A4 at *
 have HA4 := hide hA4
 clear hA4
 generalize hE4 : q4 (e) = E4 at *
 have HE4 := hide hE4
 clear hE4
 generalize hI4 : q4 (1) = I4 at *
 have HI4 := hide hI4
 clear hI4
 generalize hZ4 : q4 0 = Z4 at *
 have HZ4 := hide hZ4
 clear hZ4
 go_enter Tryd.func95, Tryd.ntmps95
 go_wp2_with fail
 generalize ((w.alloc (.cells A4 25)).alloc (.cells E4 23)).alloc (.cells Z4 25) = w1 at *
 refine (Hc.out _).mono ?_
 rintro e w2 ⟨rfl, hB⟩
 obtain ⟨H2, S2⟩ := nx H1.out S1.out hB
 clear hB H1 S1
 obtain ⟨gN, gM, H3, S3⟩ := newV H2.out S2.out Z4 I4 25
 go_wp2_with (first
  | (refine wS gN HsI4 HzI4 HoI4 ?_))
 generalize (w2.alloc (.cells Z4 25)).setRow w2.heap.size I4 = w3 at *
 clear gN gM H2 S2
 generalize w2.heap.size = p5 at *
 go_loopw [9] (fun i wr => ∃ k : Nat, k ≤ 256 ∧ i = .int .i64 k ∧ (blk p5 (.cells (q4 (pwr a e k)) 25 (0, 0)) * (blk (w.heap.size + 1 + 1) (.cells Z4 25 (0, 0)) * (blk (w.heap.size + 1) (.cells E4 23 (0, 0)) * (blk w.heap.size (.cells A4 25 (0, 0)) * all w)))).on wr ∧ Str w wr) (fun i _ => 256 - (intOf i).toNat)
 case atStart => exact ⟨0, by omega, rfl, by rw [show pwr a e 0 = 1 from rfl, HI4.out]; exact H3.out, S3.out⟩
 case round =>
  obtain ⟨k, hk, rfl, hX, hS2⟩ := hrel
  have H4 := hide hX
  have S4 := hide hS2
  clear hX hS2 H3 S3
  have hP4 : P5 < 18446744073709551616 ^ 4 := P5_lt
  by_cases hlt : k < 256
  ·have hp := pwr_lt a e k
   have hq : pwr a e k * pwr a e k % P5 < P5 := Nat.mod_lt _ P5_pos
   have hst : pwr a e (k + 1) = stepP a e k (pwr a e k) := rfl
   unfold stepP at hst
   have Ht1 := hide (fun X hX => times_any (pwr a e k) (pwr a e k) (by omega) (by omega) X hX)
   have Ht2 := hide (fun X hX => times_any (pwr a e k * pwr a e k % P5) a (by omega) Ha.out X hX)
   obtain ⟨m, hm⟩ : ∃ m, m = 255 - k := ⟨_, rfl⟩
   rw [← hm] at hst
   have hb := bit_eq e m
   have s1 : IntKind.i64.wrap (255 - (k : Int)) = (m : Int) := by rw [IntWalk.i64_in _ (by omega)]; omega
   have hm2 : m < 256 := by omega
   have hm4 : ((m / 64 : Nat) : Int) < 4 := by omega
   have Hst := hide hst
   have Hm := hide hm
   have hE := Hcell.out m hm2
   clear hst hp hq hm
   have HsP := hide (HI.out (pwr a e k))
   obtain ⟨HsQ, HoQ, HzQ⟩ := b3 (HI.out (pwr a e k * pwr a e k % P5)) (eOne (pwr a e k * pwr a e k % P5)) (eSize (pwr a e k) (pwr a e k * pwr a e k % P5))
   obtain ⟨HsR, HoR, HzR⟩ := b3 (HI.out (pwr a e k * pwr a e k % P5 * a % P5)) (eOne (pwr a e k * pwr a e k % P5 * a % P5)) (eSize (pwr a e k * pwr a e k % P5) (pwr a e k * pwr a e k % P5 * a % P5))
   generalize pwr a e k = q at *
   generalize limb e (m / 64) = x at *
   generalize q4 q = P at *
   have HA2 := hide (show q4 a = A4 from HA4.out)
   generalize hQ : q4 (q * q % P5) = Q at *
   generalize hR : q4 (q * q % P5 * a % P5) = R at *
   have HQ := hide hQ
   have HR := hide hR
   rw [HA4.out] at Ht2
   clear hQ hR hP4
   have g0 := on_blk_mul H4.out
   go_wp2_with (first
    | (refine wL g0 hu HsP ?_))
   clear g0
   refine (Ht1.out _ (hT.below (all_below H4.out.right.right.right.right S4.out))).mono ?_
   rintro e w5 ⟨rfl, hB⟩
   obtain ⟨H5, S5⟩ := nx H4.out S4.out hB
   clear hB H4 S4
   have H6 := hide (st0 H5.out (cs := Q))
   have S6 := hide (S5.out.setRow (p5) Q)
   have gW := on_blk_mul H5.out
   have g0 := on_blk_mul H6.out
   have gA := on_blk_mul H6.out.right.right.right
   have hcell := (cell_of_row (w5.setRow p5 Q) (w.heap.size + 1) (m / 64) _ _ _ (on_blk_mul H6.out.right.right)).trans hE
   by_cases ht : e.testBit m = true
   ·rw [ht] at hb
    have HN := hide (show pwr a e (k + 1) = q * q % P5 * a % P5 by rw [Hst.out, if_pos ht])
    clear ht hE
    go_wp2_with (first
     | (refine wS gW HsQ HzQ HoQ ?_)
     | (refine wL g0 hu HsQ ?_)
     | (refine wL gA hu HsA4 ?_))
    clear hcell gA
    generalize w5.setRow p5 Q = w6 at *
    clear gW H5 S5 g0
    refine (Ht2.out _ (hT.below (all_below H6.out.right.right.right.right S6.out))).mono ?_
    rintro e w7 ⟨rfl, hB⟩
    obtain ⟨H7, S7⟩ := nx H6.out S6.out hB
    clear hB H6 S6
    have H8 := hide (st0 H7.out (cs := R))
    have S8 := hide (S7.out.setRow (p5) R)
    have gW := on_blk_mul H7.out
    go_wp2_with (first
     | (refine wS gW HsR HzR HoR ?_))
    exact ⟨⟨k + 1, by omega, by simp, by rw [HN.out, HR.out]; exact H8.out, S8.out⟩, by simp [intOf]; omega⟩
   ·have hf : e.testBit m = false := by simpa using ht
    rw [hf] at hb
    have HN := hide (show pwr a e (k + 1) = q * q % P5 by rw [Hst.out, if_neg ht])
    clear ht hE hf
    go_wp2_with (first
     | (refine wS gW HsQ HzQ HoQ ?_))
    exact ⟨⟨k + 1, by omega, by simp, by rw [HN.out, HQ.out]; exact H6.out, S6.out⟩, by simp [intOf]; omega⟩
  ·obtain rfl : k = 256 := by omega
   obtain ⟨HsP, HoP, HzP⟩ := b3 (HI.out (pwr a e 256)) (eOne (pwr a e 256)) (eSize 0 (pwr a e 256))
   rw [HZ4.out] at HzP
   generalize hP : q4 (pwr a e 256) = P at *
   have g0 := on_blk_mul H4.out
   have HP := hide hP
   clear hP
   have gR := on_blk_mul H4.out.right
   have HB := hide (all_below H4.out.right.right.right.right S4.out)
   go_wp2_with (first
    | (refine wS gR HsP HzP HoP ?_)
    | (refine wL g0 hu HsP ?_))
   exact retE Tryd.results95 gR hu HsP.out rfl (by rw [HP.out]) HB.out (by omega)
theorem invert_any (a : Nat) (ha : a < 18446744073709551616 ^ 4) (w : World) (hT : Tab5 w) (hl : Tb 6 (P5 - 2) w) :
  Calls Tryd.prog 76 #[.agg (q4 a)] w fun e' w' => e' = .returned (.agg (q4 (pwr a (P5 - 2) 256))) ∧ Below w.heap.size w w' := by
 have hu := Tryd.underlying25
 have hz4e := eZero
 have hu4 := Tryd.underlying23
 have hz4 := eZero4
 have h0 := ((on_all w).alloc (.cells (q4 (a)) 25)).alloc (.cells (q4 0) 25)
 have s0 := ((Str.refl w).alloc (.cells (q4 (a)) 25)).alloc (.cells (q4 0) 25)
 try simp only [World.size_alloc] at h0
 have H1 := hide h0
 have S1 := hide s0
 clear h0 s0
 have Hc := hide (fun X h => power_any a (P5 - 2) ha (by have := P5_lt; omega) X h)
 clear ha
 obtain ⟨HsA4, HoA4, HzA4⟩ := eF (a)
 obtain ⟨HsE4, HoE4, HzE4⟩ := b3 (eInfo4 (P5 - 2)) (eOne (P5 - 2)) (eSize 0 (P5 - 2))
 obtain ⟨HsR4, HoR4, HzR4⟩ := b3 (eInfo (pwr a (P5 - 2) 256)) (eOne (pwr a (P5 - 2) 256)) (eSize 0 (pwr a (P5 - 2) 256))
 generalize hA4 : q4 (a) = A4 at *
 have HA4 := hide hA4
 clear hA4
 generalize hE4 : q4 (P5 - 2) = E4 at *
 have HE4 := hide hE4
 clear hE4
 generalize hR4 : q4 (pwr a (P5 - 2) 256) = R4 at *
 have HR4 := hide hR4
 clear hR4
 generalize hZ4 : q4 0 = Z4 at *
 have HZ4 := hide hZ4
 clear hZ4
 go_enter Tryd.func76, Tryd.ntmps76
 have ht := (hl.below (all_below H1.out.right.right S1.out)).part
 rw [HE4.out] at ht
 have g0 := on_blk_mul H1.out
 have g1 := on_blk_mul H1.out.right
 go_wp2_with (first
  | (refine wL g1 hu HsA4 ?_)
  | (refine wpList_load_part rfl _ _ rfl 6 0 rfl E4 _ ht hu4 rfl HsE4 ?_))
 clear g0 g1
 clear ht
 generalize (w.alloc (.cells A4 25)).alloc (.cells Z4 25) = w1 at *
 refine (Hc.out _ (hT.below (all_below H1.out.right.right S1.out))).mono ?_
 rintro e w2 ⟨rfl, hB⟩
 obtain ⟨H2, S2⟩ := nx H1.out S1.out hB
 clear hB H1 S1
 have gR := on_blk_mul H2.out
 have HB := hide (all_below H2.out.right.right S2.out)
 go_wp2_with (first
  | (refine wS gR HsR4 HzR4 HoR4 ?_))
 exact retR Tryd.results76 gR hu HsR4.out rfl HB.out (by omega)
end Fe
end Go.Proofs.YtbplbdnofobbiaaDoor
