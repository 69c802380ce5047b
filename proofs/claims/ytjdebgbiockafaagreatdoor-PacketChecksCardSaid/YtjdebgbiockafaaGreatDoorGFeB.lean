/- A part. -/
import Derived.Test.YtjdebgbiockafaaGreatDoorGFeA
import Derived.Test.YtjdebgbiockafaaGreatDoorGRs
set_option linter.unusedVariables false
set_option linter.unusedSimpArgs false
set_option maxRecDepth 100000
set_option maxHeartbeats 8000000
namespace Go.Proofs.YtjdebgbiockafaaGreatDoor
namespace Fe
open Go.ChangeShapes Go.WideShapes Go.ChangeAt Go.RowKit
theorem folded_any (a v : Nat) (ha : a < 18446744073709551616 ^ 4) (hv : v ≤ 38) (w : World) (hT : Tab5 w) :
  Calls Tryz.prog 119 #[.agg (q4 a), lv v] w fun e w' => e = .returned (.agg (q4 (redP (a % 2 ^ 255 + 19 * (a / 2 ^ 255 + 2 * v))))) ∧ Below w.heap.size w w' := by
 have hu := Tryz.underlying126
 have hz := eZero
 have h0 := ((on_all w).alloc (.cells (q4 (a)) 126)).alloc (.cells (q4 0) 126)
 have s0 := ((Str.refl w).alloc (.cells (q4 (a)) 126)).alloc (.cells (q4 0) 126)
 try simp only [World.size_alloc] at h0
 have H1 := hide h0
 have S1 := hide s0
 clear h0 s0
 have h255 := P5_255
 have hB := P5_B
 have hq : a / 2 ^ 255 < 2 := by
  rw [Nat.div_lt_iff_lt_mul (by decide)]
  have : (18446744073709551616 : Nat) ^ 4 = 2 * 2 ^ 255 := by decide +kernel
  omega
 have hr : a % 2 ^ 255 < 2 ^ 255 := Nat.mod_lt _ (by decide)
 have hP : 3000 < P5 := by decide
 have Hc := hide (fun X => more_any (a % 2 ^ 255) (19 * (a / 2 ^ 255 + 2 * v)) (by omega) (by omega) X)
 have Hd := hide (fun X h => reduced_any (a % 2 ^ 255 + 19 * (a / 2 ^ 255 + 2 * v)) (by omega) X h)
 have l3 := limb_lt a 3
 have d3 := limb3_div a ha
 have m3 := limb3_mod a ha
 have Hcell : Hid ((q4 a)[3]? = some (lv (limb a 3))) := hide (lvs_get _ 3 _ (qs_get 4 a 3 (by decide)))
 have Hset := hide (show (q4 a).setIfInBounds 3 (lv (limb a 3 % 9223372036854775808)) = q4 (a % 2 ^ 255) by rw [show q4 a = lvs (qs 4 a) from rfl, lvs_set, m3])
 have Q1 := hide (andNot_top (limb a 3) l3)
 have Q2 := hide (show IntKind.u64.wrap (bits .or .u64 ((v : Int) * 2) (((limb a 3 : Nat) : Int) / 9223372036854775808) * 19) = ((19 * (a / 2 ^ 255 + 2 * v) : Nat) : Int) by
  rw [show (v : Int) * 2 = ((2 * v : Nat) : Int) by omega, show ((limb a 3 : Nat) : Int) / 9223372036854775808 = ((limb a 3 / 9223372036854775808 : Nat) : Int) by omega,
   bits_or_u64_nat _ _ (by omega) (by omega), d3, or_low _ _ hq, IntKind.wrap_u64]
  omega)
 have Hab := hide (show a / 2 ^ 255 + 2 * v < 100 by omega)
 clear m3 d3 hr hP h255 hB ha hq
 generalize limb a 3 = x at *
 generalize a / 2 ^ 255 + 2 * v = ab at *
 obtain ⟨HsA4, HoA4, HzA4⟩ := eF (a)
 obtain ⟨HsB4, HoB4, HzB4⟩ := eF (a % 2 ^ 255)
 obtain ⟨HsC4, HoC4, HzC4⟩ := eF (19 * ab)
 obtain ⟨HsM4, HoM4, HzM4⟩ := eF (a % 2 ^ 255 + 19 * ab)
 obtain ⟨HsR4, HoR4, HzR4⟩ := b3 (eInfo (redP (a % 2 ^ 255 + 19 * ab))) (eOne (redP (a % 2 ^ 255 + 19 * ab))) (eSize 0 (redP (a % 2 ^ 255 + 19 * ab)))
 generalize hA4 : q4 (a) = A4 at *
 have HA4 := hide hA4
 clear hA4
 generalize hB4 : q4 (a % 2 ^ 255) = B4 at *
 have HB4 := hide hB4
 clear hB4
 generalize hC4 : q4 (19 * ab) = C4 at *
 have HC4 := hide hC4
 clear hC4
 generalize hM4 : q4 (a % 2 ^ 255 + 19 * ab) = M4 at *
 have HM4 := hide hM4
 clear hM4
 generalize hR4 : q4 (redP (a % 2 ^ 255 + 19 * ab)) = R4 at *
 have HR4 := hide hR4
 clear hR4
 generalize hZ4 : q4 0 = Z4 at *
 have HZ4 := hide hZ4
 clear hZ4
 go_enter Tryz.func119, Tryz.ntmps119
 have hcell := (cell_of_row ((w.alloc (.cells A4 126)).alloc (.cells Z4 126)) (w.heap.size) 3 _ _ _ (on_blk_mul H1.out.right)).trans Hcell.out
 have hfr := frozen_of_row ((w.alloc (.cells A4 126)).alloc (.cells Z4 126)) (w.heap.size) 3 _ _ (on_blk_mul H1.out.right)
 have e9 : A4.setIfInBounds 3 (.int .u64 (bits .andNot .u64 (x : Int) 9223372036854775808)) = B4 := by rw [Q1.out]; exact Hset.out
 have h2 := ((on_all w).alloc (.cells (A4.setIfInBounds 3 (.int .u64 (bits .andNot .u64 (x : Int) 9223372036854775808))) 126)).alloc (.cells Z4 126)
 simp only [World.size_alloc] at h2
 rw [SP.mul_left_comm] at h2
 have H2 : Hid ((blk w.heap.size (.cells B4 126 (0, 0)) * (blk (w.heap.size + 1) (.cells Z4 126 (0, 0)) * all w)).on ((w.alloc (.cells (A4.setIfInBounds 3 (.int .u64 (bits .andNot .u64 (x : Int) 9223372036854775808))) 126)).alloc (.cells Z4 126))) := hide (by rw [← e9]; exact h2)
 have S2 := hide (((Str.refl w).alloc (.cells (A4.setIfInBounds 3 (.int .u64 (bits .andNot .u64 (x : Int) 9223372036854775808))) 126)).alloc (.cells Z4 126))
 have gB := on_blk_mul H2.out
 clear h2 e9
 go_wp2_with (first
  | (refine wL gB hu HsB4 ?_)
  | (refine bn4 rfl _ rfl (19 * ab) (congrArg (Value.int .u64) Q2.out) (by have := Hab.out; omega) C4 HC4.out ?_))
 generalize (w.alloc (.cells (A4.setIfInBounds 3 (.int .u64 (bits .andNot .u64 (x : Int) 9223372036854775808))) 126)).alloc (.cells Z4 126) = w2 at *
 clear gB hcell hfr H1 S1
 refine (Hc.out _).mono ?_
 rintro e w3 ⟨rfl, hB⟩
 obtain ⟨H3, S3⟩ := nx H2.out S2.out hB
 clear hB H2 S2
 have H4 := hide (st0 H3.out (cs := M4))
 have S4 := hide (S3.out.setRow (w.heap.size) M4)
 have gW := on_blk_mul H3.out
 have gM := on_blk_mul H4.out
 go_wp2_with (first
  | (refine wS gW HsM4.out (HzB4.out.symm.trans HzM4.out) HoM4.out ?_)
  | (refine wL gM hu HsM4 ?_))
 clear gM
 generalize w3.setRow (w.heap.size) M4 = w4 at *
 clear gW H3 S3
 refine (Hd.out _ (hT.below (all_below H4.out.right.right S4.out))).mono ?_
 rintro e w5 ⟨rfl, hB⟩
 obtain ⟨H5, S5⟩ := nx H4.out S4.out hB
 clear hB H4 S4
 have gR := on_blk_mul H5.out.right
 have HB := hide (all_below H5.out.right.right S5.out)
 go_wp2_with (first
  | (refine wS gR HsR4 HzR4 HoR4 ?_))
 exact retR Tryz.results119 gR hu HsR4.out rfl HB.out (by omega)
theorem fold_split (S : Nat) : S % 18446744073709551616 ^ 4 % 2 ^ 255 + 19 * (S % 18446744073709551616 ^ 4 / 2 ^ 255 + 2 * (S / 18446744073709551616 ^ 4)) = fold5 S := by
 have e : (18446744073709551616 : Nat) ^ 4 = 2 ^ 255 * 2 := by decide +kernel
 rw [e, Nat.mod_mul_right_mod, Nat.mod_mul_right_div_self, ← Nat.div_div_eq_div_mul]
 unfold fold5
 generalize S / 2 ^ 255 = q
 omega
theorem q4_mod (S : Nat) : q4 (S % 18446744073709551616 ^ 4) = q4 S := by
 refine congrArg lvs ?_
 unfold qs
 apply List.map_congr_left
 intro i hi
 exact limb_low _ _ 4 i (by rw [Nat.mod_mod]) (List.mem_range.1 hi)
theorem tO_end (W H : Nat) (hW : W < 18446744073709551616 ^ 4) (hH : H < 18446744073709551616 ^ 4) : tO W H 4 = (W + 38 * H) / 18446744073709551616 ^ 4 := by
 unfold tO; rw [Nat.mod_eq_of_lt hW, Nat.mod_eq_of_lt hH]
theorem times_any (a b : Nat) (ha : a < 18446744073709551616 ^ 4) (hb : b < 18446744073709551616 ^ 4) (w : World) (hT : Tab5 w) :
  Calls Tryz.prog 110 #[.agg (q4 a), .agg (q4 b)] w fun e w' => e = .returned (.agg (q4 (a * b % P5))) ∧ Below w.heap.size w w' := by
 have hu := Tryz.underlying126
 have hz := eZero
 have h0 := (((on_all w).alloc (.cells (q4 (a)) 126)).alloc (.cells (q4 (b)) 126)).alloc (.cells (q4 0) 126)
 have s0 := (((Str.refl w).alloc (.cells (q4 (a)) 126)).alloc (.cells (q4 (b)) 126)).alloc (.cells (q4 0) 126)
 try simp only [World.size_alloc] at h0
 have H1 := hide h0
 have S1 := hide s0
 clear h0 s0
 obtain ⟨S, hS⟩ : ∃ S, S = a * b % 18446744073709551616 ^ 4 + 38 * (a * b / 18446744073709551616 ^ 4) := ⟨_, rfl⟩
 obtain ⟨f1, f2, f3⟩ := fold_times a b ha hb
 rw [← hS] at f1 f2
 have h1 : a * b % 18446744073709551616 ^ 4 < 18446744073709551616 ^ 4 := Nat.mod_lt _ (pB 4)
 have h2 : a * b / 18446744073709551616 ^ 4 < 18446744073709551616 ^ 4 := by
  rw [Nat.div_lt_iff_lt_mul (pB 4)]; exact Nat.mul_lt_mul'' ha hb
 have Hend := hide (show tO (a * b % 18446744073709551616 ^ 4) (a * b / 18446744073709551616 ^ 4) 4 = S / 18446744073709551616 ^ 4 by rw [tO_end _ _ h1 h2, hS])
 have Hd : Hid (∀ X, Tab5 X → Calls Tryz.prog 119 #[.agg (q4 S), lv (S / 18446744073709551616 ^ 4)] X fun e w' => e = .returned (.agg (q4 (a * b % P5))) ∧ Below X.heap.size X w') := hide fun X h => by
  have := folded_any (S % 18446744073709551616 ^ 4) (S / 18446744073709551616 ^ 4) (Nat.mod_lt _ (pB 4)) f1 X h
  rwa [fold_split, f2, q4_mod] at this
 have Hc := hide (fun X => wide_any a b ha hb X)
 have hu8 := Tryz.underlying172
 have hz8 : ∀ w, (zeroValue 172).run Tryz.prog w = .ok (.agg (q8 0)) w := fun w => by kernel_rfl
 have HsW8 : Hid ((Tryz.prog.info? 172).map (·.size) = some (q8 (a * b)).size) := hide (by rw [q8_size]; kernel_rfl)
 have HoW8 : Hid ((q8 (a * b)).all (·.oneCell') = true) := hide (lvs_one _)
 have HzW8 : Hid ((q8 0).size = (q8 (a * b)).size) := hide (by rw [q8_size, q8_size])
 have Hlo := hide (fun k (h : k < 4) => (lvs_get _ _ _ (qs_get 8 (a * b) k (by omega))).trans (congrArg (fun x => some (lv x)) (limb_lo (a * b) k h)))
 have Hhi := hide (fun k (h : k < 4) => (lvs_get _ _ _ (qs_get 8 (a * b) (k + 4) (by omega))).trans (congrArg (fun x => some (lv x)) (limb_hi (a * b) k)))
 have Hlo : Hid (∀ k, k < 4 → (q8 (a * b))[k]? = some (lv (limb (a * b % 18446744073709551616 ^ 4) k))) := Hlo
 have Hhi : Hid (∀ k, k < 4 → (q8 (a * b))[k + 4]? = some (lv (limb (a * b / 18446744073709551616 ^ 4) k))) := Hhi
 generalize q8 (a * b) = W8 at *
 generalize hZ8 : q8 0 = Z8 at *
 clear f1 f2 f3 h1 h2 ha hb hZ8
 generalize a * b % 18446744073709551616 ^ 4 = lo at *
 generalize a * b / 18446744073709551616 ^ 4 = hi at *
 have HS := hide hS
 clear hS
 obtain ⟨HsA4, HoA4, HzA4⟩ := eF (a)
 obtain ⟨HsB4, HoB4, HzB4⟩ := eF (b)
 obtain ⟨HsR4, HoR4, HzR4⟩ := eF (a * b % P5)
 generalize hA4 : q4 (a) = A4 at *
 have HA4 := hide hA4
 clear hA4
 generalize hB4 : q4 (b) = B4 at *
 have HB4 := hide hB4
 clear hB4
 generalize hR4 : q4 (a * b % P5) = R4 at *
 have HR4 := hide hR4
 clear hR4
 generalize hZ4 : q4 0 = Z4 at *
 have HZ4 := hide hZ4
 clear hZ4
 go_enter Tryz.func110, Tryz.ntmps110
 have g0 := on_blk_mul H1.out
 have g1 := on_blk_mul H1.out.right
 have g2 := on_blk_mul H1.out.right.right
 go_wp2_with (first
  | (refine wL g1 hu HsB4 ?_)
  | (refine wL g2 hu HsA4 ?_))
 clear g0 g1 g2
 generalize ((w.alloc (.cells A4 126)).alloc (.cells B4 126)).alloc (.cells Z4 126) = w1 at *
 refine (Hc.out _).mono ?_
 rintro e w2 ⟨rfl, hB⟩
 obtain ⟨H2, S2⟩ := nx H1.out S1.out hB
 clear hB H1 S1
 obtain ⟨gN, gM, H3, S3⟩ := newV H2.out S2.out Z8 W8 172
 have h4 := H3.out.alloc (.cells Z4 126)
 rw [show ((w2.alloc (.cells Z8 172)).setRow w2.heap.size W8).heap.size = w2.heap.size + 1 by simp] at h4
 have H4 := hide h4
 have S4 := hide (S3.out.alloc (.cells Z4 126))
 clear h4 gM
 go_wp2_with (first
  | (refine wS gN HsW8 HzW8 HoW8 ?_))
 generalize (w2.alloc (.cells Z8 172)).setRow w2.heap.size W8 = w3 at *
 generalize w2.heap.size = p5 at *
 clear gN H3 S3 H2 S2
 generalize w3.alloc (.cells Z4 126) = w4 at *
 go_loopw [7, 12] (fun ov i wr => ∃ k : Nat, k ≤ 4 ∧ i = .int .i64 k ∧ ov = lv (tO lo hi k) ∧ (blk (p5 + 1) (.cells (lvs ((qs 4 S).take k ++ (List.replicate 4 0).drop k)) 126 (0, 0)) * (blk p5 (.cells W8 172 (0, 0)) * (blk (w.heap.size + 1 + 1) (.cells Z4 126 (0, 0)) * (blk (w.heap.size + 1) (.cells B4 126 (0, 0)) * (blk w.heap.size (.cells A4 126 (0, 0)) * all w))))).on wr ∧ Str w wr) (fun _ i _ => 4 - (intOf i).toNat)
 case atStart =>
  refine ⟨0, by omega, rfl, by rw [tO_0]; rfl, ?_, S4.out⟩
  have := H4.out
  rw [← HZ4.out] at this ⊢
  rw [show (qs 4 S).take 0 ++ (List.replicate 4 0).drop 0 = qs 4 0 by rw [qz]; rfl]
  exact this
 obtain ⟨k, hk, rfl, rfl, hX, hS2⟩ := hrel
 have HXk := hide hX
 have HSk := hide hS2
 clear hX hS2 H4 S4
 by_cases hlt : k < 4
 ·have hstep := tO_step lo hi k
  have hsub := tO_limb lo hi k
  rw [← HS.out] at hsub
  have Hset := hide (set_takeN (qs 4 S) (List.replicate 4 0) k (limb S k) (qs_get 4 S k hlt) (by simp; omega))
  have HcA : Hid (∀ X, (blk p5 (.cells W8 172 (0, 0)) * (blk (w.heap.size + 1 + 1) (.cells Z4 126 (0, 0)) * (blk (w.heap.size + 1) (.cells B4 126 (0, 0)) * (blk w.heap.size (.cells A4 126 (0, 0)) * all w)))).on X → X.cell? ⟨p5, k, .none⟩ = some (lv (limb lo k))) := hide fun X hX => by rw [cell_of_row X p5 k W8 _ _ (on_blk_mul hX)]; exact Hlo.out k hlt
  have HcB : Hid (∀ X, (blk p5 (.cells W8 172 (0, 0)) * (blk (w.heap.size + 1 + 1) (.cells Z4 126 (0, 0)) * (blk (w.heap.size + 1) (.cells B4 126 (0, 0)) * (blk w.heap.size (.cells A4 126 (0, 0)) * all w)))).on X → X.cell? ⟨p5, k + 4, .none⟩ = some (lv (limb hi k))) := hide fun X hX => by rw [cell_of_row X p5 (k + 4) W8 _ _ (on_blk_mul hX)]; exact Hhi.out k hlt
  have hcall := fun X => grown_any (limb hi k) 38 (limb lo k) (tO lo hi k) (limb_lt _ _) (by omega) (limb_lt _ _) (by have := tO_le lo hi k; omega) X
  rw [← hsub, ← hstep] at hcall
  have Hcall := hide hcall
  have hpl := part_len (qs 4 S) (qs_len 4 S) k hk
  obtain ⟨pl, hpl2⟩ : ∃ pl, pl = (qs 4 S).take k ++ (List.replicate 4 0).drop k := ⟨_, rfl⟩
  rw [← hpl2] at hpl HXk Hset
  obtain ⟨P1, hP1⟩ : ∃ P1, P1 = lvs pl := ⟨_, rfl⟩
  obtain ⟨P2, hP2⟩ : ∃ P2, P2 = lvs (pl.set k (limb S k)) := ⟨_, rfl⟩
  have Hp2 := hide (show P1.setIfInBounds k (lv (limb S k)) = P2 by rw [hP1, hP2, lvs_set])
  have HP2 := hide (show P2 = lvs ((qs 4 S).take (k + 1) ++ (List.replicate 4 0).drop (k + 1)) by rw [hP2, Hset.out])
  have Hps := hide (show k < P1.size by rw [hP1, lvs_size]; omega)
  have hs8 : (Tryz.prog.info? 50).map (·.size) = some 1 := by kernel_rfl
  rw [← hP1] at HXk
  clear hsub hcall hpl hpl2 hstep hP1 hP2 Hset
  generalize limb lo k = c at *
  generalize limb hi k = x at *
  generalize tO lo hi k = ov at *
  generalize hov2 : tO lo hi (k + 1) = ov2 at *
  have Hov2 := hide hov2
  clear hov2
  generalize limb S k = dk at *
  have hk4 : (k : Int) < 4 := by omega
  have hk8 : (k : Int) < 8 := by omega
  have hk48 : ((k + 4 : Nat) : Int) < 8 := by omega
  have c4 : IntKind.i64.wrap ((k : Int) + 4) = ((k + 4 : Nat) : Int) := by rw [IntWalk.i64_in _ (by omega)]; omega
  generalize k + 4 = m4 at *
  go_wp2_with fail
  refine AppK.wp_region_set 15 [isV (.int .i64 (k : Int)), isV (.int .i64 (k : Int)), isV (.int .i64 ((m4 : Nat) : Int)), isV (.pointer (some ⟨p5, m4, .none⟩)), isV (lv x), isV (.int .i64 (k : Int)), isV (.pointer (some ⟨p5, k, .none⟩)), isV (lv c), isV (lv ov), isV (.tuple #[lv ov2, lv dk]), isV (.tuple #[lv ov2, lv dk]), isV (lv ov2), isV (lv dk), isV (lv ov2), isV (.pointer (some ⟨p5 + 1, k, .none⟩)), (fun _ _ => True)]
   [isV (.int .i64 (k : Int)), isV (.int .i64 (k : Int)), isV (.int .i64 ((m4 : Nat) : Int)), isV (.pointer (some ⟨p5, m4, .none⟩)), isV (lv x), isV (.int .i64 (k : Int)), isV (.pointer (some ⟨p5, k, .none⟩)), isV (lv c), isV (lv ov), isV (.tuple #[lv ov2, lv dk]), isV (.tuple #[lv ov2, lv dk]), isV (lv ov2), isV (lv dk), isV (lv ov2), isV (.pointer (some ⟨p5 + 1, k, .none⟩)), (fun _ _ => True)] _ rfl (by kernel_rfl) (by kernel_rfl) rfl (by decide) (.inr rfl) (fun ph X => (blk (p5 + 1) (.cells (if ph = true then P2 else P1) 126 (0, 0)) * (blk p5 (.cells W8 172 (0, 0)) * (blk (w.heap.size + 1 + 1) (.cells Z4 126 (0, 0)) * (blk (w.heap.size + 1) (.cells B4 126 (0, 0)) * (blk w.heap.size (.cells A4 126 (0, 0)) * all w))))).on X ∧ Str w X) ⟨SP.on.drew HXk.out, Str.drew HSk.out⟩ (fun ph a b h st => ⟨h.1.below st, h.2.trans (Str.below st)⟩) kP kP ?store ?todo ?r63
  case store =>
   intro ev X hT hb hk hf
   have hX : (blk (p5 + 1) (.cells P1 126 (0, 0)) * (blk p5 (.cells W8 172 (0, 0)) * (blk (w.heap.size + 1 + 1) (.cells Z4 126 (0, 0)) * (blk (w.heap.size + 1) (.cells B4 126 (0, 0)) * (blk w.heap.size (.cells A4 126 (0, 0)) * all w))))).on X := hT.1
   exact OpOk.store_one _ _ _ rfl (p5 + 1) k (lv dk) (fX ev 28 hf.1) (fX ev 27 hf.2.1) rfl _ P1 hX hs8 Hps.out rfl P2 Hp2.out (fun h3 => ⟨⟨h3, hT.2.setRow _ _⟩, trivial, fun i _ hv => vList_free fR i _ _ _ hv⟩)
  case todo =>
   refine ⟨?_, ?_, ?_, ?_, ?_, ?_, ?_, ?_, ?_, ?_, ?_, ?_, ?_, ?_, ?_, ?_, trivial⟩
   ·refine pK fun ev X hT hb hk hf => ?_
    exact OpOk.m rfl (fV ev 8 (.int .i64 (k : Int)) hk.1)
   ·refine pK fun ev X hT hb hk hf => ?_
    exact OpOk.m rfl (fV ev 8 (.int .i64 (k : Int)) hk.1)
   ·refine pK fun ev X hT hb hk hf => ?_
    exact OpOk.r (by simp [execOp, fX ev 17 hf.1, hb.1, c4, go_sem])
   ·refine pK fun ev X hT hb hk hf => ?_
    exact OpOk.r (by simp [execOp, fV ev 5 (.pointer (some ⟨p5, 0, .none⟩)) hk.1, fX ev 18 hf.1, hk48, go_sem]; try (intro h; omega))
   ·refine pK fun ev X hT hb hk hf => ?_
    have cW := HcB.out X hT.1.right
    exact OpOk.sc (fX ev 19 hf.1) cW
   ·refine pK fun ev X hT hb hk hf => ?_
    exact OpOk.m rfl (fV ev 8 (.int .i64 (k : Int)) hk.1)
   ·refine pK fun ev X hT hb hk hf => ?_
    exact OpOk.r (by simp [execOp, fV ev 5 (.pointer (some ⟨p5, 0, .none⟩)) hk.1, fX ev 21 hf.1, hb.1, hk8, go_sem]; try (intro h; omega))
   ·refine pK fun ev X hT hb hk hf => ?_
    have cW := HcA.out X hT.1.right
    exact OpOk.sc (fX ev 22 hf.1) cW
   ·refine pK fun ev X hT hb hk hf => ?_
    have e0 : ev (.tmp 7) = lv ov := fP hk.1 (by kernel_rfl)
    exact OpOk.m rfl e0
   ·refine pK fun ev X hT hb hk hf => ?_
    refine OpOk.enters (by simp [execOp, resolve, invoke, fX ev 20 hf.1, fX ev 23 hf.2.1, fX ev 24 hf.2.2.1, hb.1, hb.2.1, go_sem]) ((Hcall.out X).mono ?_)
    rintro e _ ⟨rfl, rfl⟩
    exact ⟨_, rfl, rfl, Stay.refl _⟩
   ·refine pK fun ev X hT hb hk hf => ?_
    exact OpOk.m rfl (fX ev 25 hf.1)
   ·refine pK fun ev X hT hb hk hf => ?_
    exact OpOk.s (fX ev 15 hf.1) hb
   ·refine pK fun ev X hT hb hk hf => ?_
    exact OpOk.s (fX ev 15 hf.1) hb
   ·refine pK fun ev X hT hb hk hf => ?_
    exact OpOk.assign rfl (fX ev 26 hf.1) ⟨rfl, Stay.refl _⟩
   ·refine pK fun ev X hT hb hk hf => ?_
    exact OpOk.r (by simp [execOp, fV ev 6 (.pointer (some ⟨p5 + 1, 0, .none⟩)) hk.1, fX ev 16 hf.1, hb.1, hk4, go_sem]; try (intro h; omega))
   exact fun h => absurd rfl h
  intro X hT
  rintro _ - _ - _ - _ - _ - _ - _ - _ - _ - _ - _ - _ - _ - _ rfl _ - _ -
  have hX2 : (blk (p5 + 1) (.cells P2 126 (0, 0)) * (blk p5 (.cells W8 172 (0, 0)) * (blk (w.heap.size + 1 + 1) (.cells Z4 126 (0, 0)) * (blk (w.heap.size + 1) (.cells B4 126 (0, 0)) * (blk w.heap.size (.cells A4 126 (0, 0)) * all w))))).on X := hT.1
  have HX2 := hide hX2
  have HST := hide hT.2
  clear hT hX2
  go_wp2
  refine Rest.done ?_
  go_wp2
  refine ⟨⟨k + 1, by omega, by simp, by rw [Hov2.out], by rw [← HP2.out]; exact HX2.out, HST.out⟩, by simp [intOf]; omega⟩
 obtain rfl : k = 4 := by omega
 have e4 : (qs 4 S).take 4 ++ (List.replicate 4 0).drop 4 = qs 4 S := by rw [List.take_of_length_le (by rw [qs_len]; omega)]; simp
 rw [e4] at HXk
 have gL := on_blk_mul HXk.out
 have HsL := hide (eInfo S)
 rw [show lvs (qs 4 S) = q4 S from rfl] at gL
 rw [Hend.out]
 generalize q4 S = L4 at *
 generalize S / 18446744073709551616 ^ 4 = vv at *
 clear e4
 go_wp2_with (refine wL gL hu HsL ?_)
 refine (Hd.out _ (hT.below (all_below HXk.out.right.right.right.right.right HSk.out))).mono ?_
 rintro e w6 ⟨rfl, hB⟩
 obtain ⟨H6, S6⟩ := nx HXk.out HSk.out hB
 clear hB gL
 have gR := on_blk_mul H6.out.right.right
 have HB := hide (all_below H6.out.right.right.right.right.right S6.out)
 go_wp2_with (refine wS gR HsR4 HzR4 HoR4 ?_)
 exact retR Tryz.results110 gR hu HsR4.out rfl HB.out (by omega)
theorem eZero4 (w : World) : (zeroValue 51).run Tryz.prog w = .ok (.agg (q4 0)) w := by rw [qz4]; kernel_rfl
theorem bit_eq (e m : Nat) : (bits .and .u64 (((limb e (m / 64) : Nat) : Int) / 2 ^ (m % 64)) 1 == 1) = e.testBit m := by
 have hT := testBit_limb e m
 have hb := bit_and (limb e (m / 64)) (m % 64) (limb_lt _ _)
 rw [hT] at hb
 have e3 : ((limb e (m / 64) : Nat) : Int) / 2 ^ (m % 64) = ((limb e (m / 64) / 2 ^ (m % 64) : Nat) : Int) := by rw [Int.natCast_ediv, Int.natCast_pow]; rfl
 rw [e3, hb]
 cases e.testBit m <;> rfl
theorem power_any (a e : Nat) (ha : a < 18446744073709551616 ^ 4) (he : e < 18446744073709551616 ^ 4) (w : World) (hT : Tab5 w) :
  Calls Tryz.prog 113 #[.agg (q4 a), .agg (q4 e)] w fun e' w' => e' = .returned (.agg (q4 (pwr a e 256))) ∧ Below w.heap.size w w' := by
 have hu := Tryz.underlying126
 have hz4e := eZero
 have hu4 := Tryz.underlying51
 have hz4 := eZero4
 have h0 := (((on_all w).alloc (.cells (q4 (a)) 126)).alloc (.cells (q4 (e)) 51)).alloc (.cells (q4 0) 126)
 have s0 := (((Str.refl w).alloc (.cells (q4 (a)) 126)).alloc (.cells (q4 (e)) 51)).alloc (.cells (q4 0) 126)
 try simp only [World.size_alloc] at h0
 have H1 := hide h0
 have S1 := hide s0
 clear h0 s0
 have Hc := hide (fun X => small_any 1 (by decide) X)
 have Hcell : Hid (∀ m, m < 256 → (q4 e)[m / 64]? = some (lv (limb e (m / 64)))) := hide fun m hm => lvs_get _ _ _ (qs_get 4 e _ (by omega))
 have Ha := hide ha
 have HI := hide eInfo
 clear ha he
 obtain ⟨HsA4, HoA4, HzA4⟩ := eF (a)
 obtain ⟨HsE4, HoE4, HzE4⟩ := b3 (eInfo4 (e)) (eOne (e)) (eSize 0 (e))
 obtain ⟨HsI4, HoI4, HzI4⟩ := eF (1)
 generalize hA4 : q4 (a) = A4 at *
 have HA4 := hide hA4
 clear hA4
 generalize hE4 : q4 (e) = E4 at *
 have HE4 := hide hE4
 clear hE4
 generalize hI4 : q4 (1) = I4 at *
 have HI4 := hide hI4
 clear hI4
 generalize hZ4 : q4 0 = Z4 at *
 have HZ4 := hide hZ4
 clear hZ4
 go_enter Tryz.func113, Tryz.ntmps113
 go_wp2_with fail
 generalize ((w.alloc (.cells A4 126)).alloc (.cells E4 51)).alloc (.cells Z4 126) = w1 at *
 refine (Hc.out _).mono ?_
 rintro e w2 ⟨rfl, hB⟩
 obtain ⟨H2, S2⟩ := nx H1.out S1.out hB
 clear hB H1 S1
 obtain ⟨gN, gM, H3, S3⟩ := newV H2.out S2.out Z4 I4 126
 go_wp2_with (first
  | (refine wS gN HsI4 HzI4 HoI4 ?_))
 generalize (w2.alloc (.cells Z4 126)).setRow w2.heap.size I4 = w3 at *
 clear gN gM H2 S2
 generalize w2.heap.size = p5 at *
 go_loopw [9] (fun i wr => ∃ k : Nat, k ≤ 256 ∧ i = .int .i64 k ∧ (blk p5 (.cells (q4 (pwr a e k)) 126 (0, 0)) * (blk (w.heap.size + 1 + 1) (.cells Z4 126 (0, 0)) * (blk (w.heap.size + 1) (.cells E4 51 (0, 0)) * (blk w.heap.size (.cells A4 126 (0, 0)) * all w)))).on wr ∧ Str w wr) (fun i _ => 256 - (intOf i).toNat)
 case atStart => exact ⟨0, by omega, rfl, by rw [show pwr a e 0 = 1 from rfl, HI4.out]; exact H3.out, S3.out⟩
 obtain ⟨k, hk, rfl, hX, hS2⟩ := hrel
 have H4 := hide hX
 have S4 := hide hS2
 clear hX hS2 H3 S3
 have hP4 : P5 < 18446744073709551616 ^ 4 := P5_lt
 by_cases hlt : k < 256
 ·have hp := pwr_lt a e k
  have hq : pwr a e k * pwr a e k % P5 < P5 := Nat.mod_lt _ P5_pos
  have hst : pwr a e (k + 1) = stepP a e k (pwr a e k) := rfl
  unfold stepP at hst
  have Ht1 := hide (fun X hX => times_any (pwr a e k) (pwr a e k) (by omega) (by omega) X hX)
  have Ht2 := hide (fun X hX => times_any (pwr a e k * pwr a e k % P5) a (by omega) Ha.out X hX)
  obtain ⟨m, hm⟩ : ∃ m, m = 255 - k := ⟨_, rfl⟩
  rw [← hm] at hst
  have hb := bit_eq e m
  have s1 : IntKind.i64.wrap (255 - (k : Int)) = (m : Int) := by rw [IntWalk.i64_in _ (by omega)]; omega
  have hm2 : m < 256 := by omega
  have hm4 : ((m / 64 : Nat) : Int) < 4 := by omega
  have Hst := hide hst
  have Hm := hide hm
  have hE := Hcell.out m hm2
  clear hst hp hq hm
  have HsP := hide (HI.out (pwr a e k))
  obtain ⟨HsQ, HoQ, HzQ⟩ := b3 (HI.out (pwr a e k * pwr a e k % P5)) (eOne (pwr a e k * pwr a e k % P5)) (eSize (pwr a e k) (pwr a e k * pwr a e k % P5))
  obtain ⟨HsR, HoR, HzR⟩ := b3 (HI.out (pwr a e k * pwr a e k % P5 * a % P5)) (eOne (pwr a e k * pwr a e k % P5 * a % P5)) (eSize (pwr a e k * pwr a e k % P5) (pwr a e k * pwr a e k % P5 * a % P5))
  generalize pwr a e k = q at *
  generalize limb e (m / 64) = x at *
  generalize q4 q = P at *
  have HA2 := hide (show q4 a = A4 from HA4.out)
  generalize hQ : q4 (q * q % P5) = Q at *
  generalize hR : q4 (q * q % P5 * a % P5) = R at *
  have HQ := hide hQ
  have HR := hide hR
  rw [HA4.out] at Ht2
  clear hQ hR hP4
  have g0 := on_blk_mul H4.out
  go_wp2_with (first
   | (refine wL g0 hu HsP ?_))
  clear g0
  refine (Ht1.out _ (hT.below (all_below H4.out.right.right.right.right S4.out))).mono ?_
  rintro e w5 ⟨rfl, hB⟩
  obtain ⟨H5, S5⟩ := nx H4.out S4.out hB
  clear hB H4 S4
  have H6 := hide (st0 H5.out (cs := Q))
  have S6 := hide (S5.out.setRow (p5) Q)
  have gW := on_blk_mul H5.out
  have g0 := on_blk_mul H6.out
  have gA := on_blk_mul H6.out.right.right.right
  have hcell := (cell_of_row (w5.setRow p5 Q) (w.heap.size + 1) (m / 64) _ _ _ (on_blk_mul H6.out.right.right)).trans hE
  by_cases ht : e.testBit m = true
  ·rw [ht] at hb
   have HN := hide (show pwr a e (k + 1) = q * q % P5 * a % P5 by rw [Hst.out, if_pos ht])
   clear ht hE
   go_wp2_with (first
    | (refine wS gW HsQ HzQ HoQ ?_)
    | (refine wL g0 hu HsQ ?_)
    | (refine wL gA hu HsA4 ?_))
   clear hcell gA
   generalize w5.setRow p5 Q = w6 at *
   clear gW H5 S5 g0
   refine (Ht2.out _ (hT.below (all_below H6.out.right.right.right.right S6.out))).mono ?_
   rintro e w7 ⟨rfl, hB⟩
   obtain ⟨H7, S7⟩ := nx H6.out S6.out hB
   clear hB H6 S6
   have H8 := hide (st0 H7.out (cs := R))
   have S8 := hide (S7.out.setRow (p5) R)
   have gW := on_blk_mul H7.out
   go_wp2_with (first
    | (refine wS gW HsR HzR HoR ?_))
   exact ⟨⟨k + 1, by omega, by simp, by rw [HN.out, HR.out]; exact H8.out, S8.out⟩, by simp [intOf]; omega⟩
  have hf : e.testBit m = false := by simpa using ht
  rw [hf] at hb
  have HN := hide (show pwr a e (k + 1) = q * q % P5 by rw [Hst.out, if_neg ht])
  clear ht hE hf
  go_wp2_with (first
   | (refine wS gW HsQ HzQ HoQ ?_))
  exact ⟨⟨k + 1, by omega, by simp, by rw [HN.out, HQ.out]; exact H6.out, S6.out⟩, by simp [intOf]; omega⟩
 obtain rfl : k = 256 := by omega
 obtain ⟨HsP, HoP, HzP⟩ := b3 (HI.out (pwr a e 256)) (eOne (pwr a e 256)) (eSize 0 (pwr a e 256))
 rw [HZ4.out] at HzP
 generalize hP : q4 (pwr a e 256) = P at *
 have g0 := on_blk_mul H4.out
 have HP := hide hP
 clear hP
 have gR := on_blk_mul H4.out.right
 have HB := hide (all_below H4.out.right.right.right.right S4.out)
 go_wp2_with (first
  | (refine wS gR HsP HzP HoP ?_)
  | (refine wL g0 hu HsP ?_))
 exact retE Tryz.results113 gR hu HsP.out rfl (by rw [HP.out]) HB.out (by omega)
theorem invert_any (a : Nat) (ha : a < 18446744073709551616 ^ 4) (w : World) (hT : Tab5 w) (hl : Tb 7 (P5 - 2) w) :
  Calls Tryz.prog 102 #[.agg (q4 a)] w fun e' w' => e' = .returned (.agg (q4 (pwr a (P5 - 2) 256))) ∧ Below w.heap.size w w' := by
 have hu := Tryz.underlying126
 have hz4e := eZero
 have hu4 := Tryz.underlying51
 have hz4 := eZero4
 have h0 := ((on_all w).alloc (.cells (q4 (a)) 126)).alloc (.cells (q4 0) 126)
 have s0 := ((Str.refl w).alloc (.cells (q4 (a)) 126)).alloc (.cells (q4 0) 126)
 try simp only [World.size_alloc] at h0
 have H1 := hide h0
 have S1 := hide s0
 clear h0 s0
 have Hc := hide (fun X h => power_any a (P5 - 2) ha (by have := P5_lt; omega) X h)
 clear ha
 obtain ⟨HsA4, HoA4, HzA4⟩ := eF (a)
 obtain ⟨HsE4, HoE4, HzE4⟩ := b3 (eInfo4 (P5 - 2)) (eOne (P5 - 2)) (eSize 0 (P5 - 2))
 obtain ⟨HsR4, HoR4, HzR4⟩ := b3 (eInfo (pwr a (P5 - 2) 256)) (eOne (pwr a (P5 - 2) 256)) (eSize 0 (pwr a (P5 - 2) 256))
 generalize hA4 : q4 (a) = A4 at *
 have HA4 := hide hA4
 clear hA4
 generalize hE4 : q4 (P5 - 2) = E4 at *
 have HE4 := hide hE4
 clear hE4
 generalize hR4 : q4 (pwr a (P5 - 2) 256) = R4 at *
 have HR4 := hide hR4
 clear hR4
 generalize hZ4 : q4 0 = Z4 at *
 have HZ4 := hide hZ4
 clear hZ4
 go_enter Tryz.func102, Tryz.ntmps102
 have ht := (hl.below (all_below H1.out.right.right S1.out)).part
 rw [HE4.out] at ht
 have g0 := on_blk_mul H1.out
 have g1 := on_blk_mul H1.out.right
 go_wp2_with (first
  | (refine wL g1 hu HsA4 ?_)
  | (refine wpList_load_part rfl _ _ rfl 7 0 rfl E4 _ ht hu4 rfl HsE4 ?_))
 clear g0 g1
 clear ht
 generalize (w.alloc (.cells A4 126)).alloc (.cells Z4 126) = w1 at *
 refine (Hc.out _ (hT.below (all_below H1.out.right.right S1.out))).mono ?_
 rintro e w2 ⟨rfl, hB⟩
 obtain ⟨H2, S2⟩ := nx H1.out S1.out hB
 clear hB H1 S1
 have gR := on_blk_mul H2.out
 have HB := hide (all_below H2.out.right.right S2.out)
 go_wp2_with (first
  | (refine wS gR HsR4 HzR4 HoR4 ?_))
 exact retR Tryz.results102 gR hu HsR4.out rfl HB.out (by omega)
def root1 (a : Nat) : Nat := pwr a E8 256
def root2 (a : Nat) : Nat := if root1 a * root1 a % P5 = a then root1 a else root1 a * SqM % P5
def rootV (a : Nat) : Value := if root2 a * root2 a % P5 = a then (if root2 a % 2 = 1 then .tuple #[.agg (q4 ((P5 - root2 a) % P5)), .bool true] else .tuple #[.agg (q4 (root2 a)), .bool true]) else .tuple #[.agg (q4 0), .bool false]
theorem root_any (a : Nat) (ha : a < P5) (w : World) (hT : Tab5 w) (hR : TabR w) :
  Calls Tryz.prog 103 #[.agg (q4 a)] w fun e' w' => e' = .returned (rootV a) ∧ Below w.heap.size w w' := by
 have hu := Tryz.underlying126
 have hz4e := eZero
 have hu4 := Tryz.underlying51
 have hz4 := eZero4
 have h0 := ((on_all w).alloc (.cells (q4 (a)) 126)).alloc (.cells (q4 0) 126)
 have s0 := ((Str.refl w).alloc (.cells (q4 (a)) 126)).alloc (.cells (q4 0) 126)
 try simp only [World.size_alloc] at h0
 have H1 := hide h0
 have S1 := hide s0
 clear h0 s0
 have hP4 := P5_lt
 obtain ⟨sq, hsq⟩ : ∃ s, s = SqM := ⟨_, rfl⟩
 have hE4 : E8 < 18446744073709551616 ^ 4 := by decide
 have hS4 : sq < 18446744073709551616 ^ 4 := by rw [hsq]; decide
 have Hc := hide (fun X h => power_any a E8 (by omega) hE4 X h)
 have hr2 : root2 a = if root1 a * root1 a % P5 = a then root1 a else root1 a * sq % P5 := by rw [hsq]; rfl
 have hrV : rootV a = if root2 a * root2 a % P5 = a then (if root2 a % 2 = 1 then .tuple #[.agg (q4 ((P5 - root2 a) % P5)), .bool true] else .tuple #[.agg (q4 (root2 a)), .bool true]) else .tuple #[.agg (q4 0), .bool false] := rfl
 have hl1 : root1 a < P5 := pwr_lt _ _ _
 rw [show pwr a E8 256 = root1 a from rfl] at Hc
 generalize root1 a = r1 at *
 have hl2 : r1 * sq % P5 < P5 := Nat.mod_lt _ P5_pos
 have hm1 : r1 * r1 % P5 < P5 := Nat.mod_lt _ P5_pos
 have hm2 : r1 * sq % P5 * (r1 * sq % P5) % P5 < P5 := Nat.mod_lt _ P5_pos
 have Ht1 := hide (fun X h => times_any r1 r1 (by omega) (by omega) X h)
 have Ht2 := hide (fun X h => times_any r1 sq (by omega) hS4 X h)
 have Ht3 := hide (fun X h => times_any (r1 * sq % P5) (r1 * sq % P5) (by omega) (by omega) X h)
 have Hq1 := hide (fun X => eq_q4 X 9998 126 Tryz.underlying126 (r1 * r1 % P5) a (by omega) (by omega))
 have Hq2 := hide (fun X => eq_q4 X 9998 126 Tryz.underlying126 (r1 * sq % P5 * (r1 * sq % P5) % P5) a (by omega) (by omega))
 have Ho1 := hide (fun X => odd_any r1 X)
 have Ho2 := hide (fun X => odd_any (r1 * sq % P5) X)
 have Hn1 := hide (fun X h => neg_any r1 hl1 X h)
 have Hn2 := hide (fun X h => neg_any (r1 * sq % P5) hl2 X h)
 have Hgd : Hid (Tryz.prog.eqGuardType Tryz.prog.depth 126 = false) := hide (by kernel_rfl)
 have HrV := hide hrV
 have Hsq := hide hsq
 clear hsq
 have Hr2 := hide hr2
 clear hP4 hE4 hS4 hr2 hrV hl1 hl2 hm1 hm2 ha
 obtain ⟨HsA4, HoA4, HzA4⟩ := eF (a)
 obtain ⟨HsE4, HoE4, HzE4⟩ := b3 (eInfo4 (E8)) (eOne (E8)) (eSize 0 (E8))
 obtain ⟨HsX1, HoX1, HzX1⟩ := eF (r1)
 obtain ⟨HsY1, HoY1, HzY1⟩ := eF (r1 * r1 % P5)
 obtain ⟨HsC4, HoC4, HzC4⟩ := eF (sq)
 obtain ⟨HsX2, HoX2, HzX2⟩ := eF (r1 * sq % P5)
 obtain ⟨HsY2, HoY2, HzY2⟩ := b3 (eInfo (r1 * sq % P5 * (r1 * sq % P5) % P5)) (eOne (r1 * sq % P5 * (r1 * sq % P5) % P5)) (eSize 0 (r1 * sq % P5 * (r1 * sq % P5) % P5))
 obtain ⟨HsN1, HoN1, HzN1⟩ := b3 (eInfo ((P5 - r1) % P5)) (eOne ((P5 - r1) % P5)) (eSize 0 ((P5 - r1) % P5))
 obtain ⟨HsN2, HoN2, HzN2⟩ := b3 (eInfo ((P5 - r1 * sq % P5) % P5)) (eOne ((P5 - r1 * sq % P5) % P5)) (eSize 0 ((P5 - r1 * sq % P5) % P5))
 obtain ⟨HsZ4, HoZ4, HzZ4⟩ := eF (0)
 generalize hA4 : q4 (a) = A4 at *
 have HA4 := hide hA4
 clear hA4
 generalize hE4 : q4 (E8) = E4 at *
 have HE4 := hide hE4
 clear hE4
 generalize hX1 : q4 (r1) = X1 at *
 have HX1 := hide hX1
 clear hX1
 generalize hY1 : q4 (r1 * r1 % P5) = Y1 at *
 have HY1 := hide hY1
 clear hY1
 generalize hC4 : q4 (sq) = C4 at *
 have HC4 := hide hC4
 clear hC4
 generalize hX2 : q4 (r1 * sq % P5) = X2 at *
 have HX2 := hide hX2
 clear hX2
 generalize hY2 : q4 (r1 * sq % P5 * (r1 * sq % P5) % P5) = Y2 at *
 have HY2 := hide hY2
 clear hY2
 generalize hN1 : q4 ((P5 - r1) % P5) = N1 at *
 have HN1 := hide hN1
 clear hN1
 generalize hN2 : q4 ((P5 - r1 * sq % P5) % P5) = N2 at *
 have HN2 := hide hN2
 clear hN2
 generalize hZ4 : q4 0 = Z4 at *
 have HZ4 := hide hZ4
 clear hZ4
 go_enter Tryz.func103, Tryz.ntmps103
 have ht := (hR.below (all_below H1.out.right.right S1.out)).e.part
 rw [HE4.out] at ht
 have g0 := on_blk_mul H1.out
 have g1 := on_blk_mul H1.out.right
 go_wp2_with (first
  | (refine wL g1 hu HsA4 ?_)
  | (refine wpList_load_part rfl _ _ rfl 8 0 rfl E4 _ ht hu4 rfl HsE4 ?_))
 clear g0 g1
 clear ht
 generalize (w.alloc (.cells A4 126)).alloc (.cells Z4 126) = w1 at *
 refine (Hc.out _ (hT.below (all_below H1.out.right.right S1.out))).mono ?_
 rintro e w2 ⟨rfl, hB⟩
 obtain ⟨H2, S2⟩ := nx H1.out S1.out hB
 clear hB H1 S1
 obtain ⟨gN, gM, H3, S3⟩ := newV H2.out S2.out Z4 X1 126
 go_wp2_with (first
  | (refine wS gN HsX1 HzX1 HoX1 ?_))
 generalize (w2.alloc (.cells Z4 126)).setRow w2.heap.size X1 = w3 at *
 clear gN gM H2 S2
 generalize w2.heap.size = p5 at *
 by_cases h1 : r1 * r1 % P5 = a
 ·have hq9 := Hq1.out
  simp only [h1, decide_true] at hq9
  have HQ9 := hide hq9
  have HV0 := HrV.out
  rw [Hr2.out, if_pos h1, if_pos h1] at HV0
  have HV := hide HV0
  clear h1 hq9 HV0 HrV Hr2
  have HY : Y1 = Y1 := rfl
  have hT0 := hide (hT.below (all_below H3.out.right.right.right S3.out))
  go_wp2_with fail
  refine rV (iv [.agg X1, .agg X1, .agg Y1, .agg A4, .bool false]) ?t53 ?r64
  case' t53 => refine ⟨?_, ?_, ?_, ?_, ?_, trivial⟩ <;> intro ev X hT hb hk hf
  ·exact OpOk.l (x := .tmp 4) hk.1 (on_blk_mul (H3.out.below hT)) hu HsX1.out
  ·exact OpOk.l (x := .tmp 4) hk.1 (on_blk_mul (H3.out.below hT)) hu HsX1.out
  ·exact OpOk.c2 (fX ev 8 hf.1) (fX ev 9 hf.2.1) hb (Ht1.out X (hT0.out.below hT))
  ·exact OpOk.l (x := .tmp 1) hk.1 (on_blk_mul (H3.out.below hT).right.right) hu HsA4.out
  ·exact OpOk.run (v := .bool false) (W' := X) (by
    unfold execOp
    simp only [fX ev 10 hf.1, fX ev 11 hf.2.1, Sem.run_bind, run_eqGuard_agg X _ _ _ _ _ _ Hgd.out, run_neq_struct, HQ9.out X, Result.andThen_ok]
    rfl) ⟨rfl, Stay.refl _⟩
  intro w4 hX
  rintro _ - _ - _ - _ - _ rfl
  obtain ⟨H4, S4⟩ := nx H3.out S3.out hX
  clear hX H3 S3 hT0
  go_wp2
  refine Rest.done ?_
  have hT0 := hide (hT.below (all_below H4.out.right.right.right S4.out))
  go_wp2_with fail
  refine rV (iv [.agg X1, .agg X1, .agg Y1, .agg A4, .bool false]) ?t54 ?r65
  case' t54 => refine ⟨?_, ?_, ?_, ?_, ?_, trivial⟩ <;> intro ev X hT hb hk hf
  ·exact OpOk.l (x := .tmp 4) hk.1 (on_blk_mul (H4.out.below hT)) hu HsX1.out
  ·exact OpOk.l (x := .tmp 4) hk.1 (on_blk_mul (H4.out.below hT)) hu HsX1.out
  ·exact OpOk.c2 (fX ev 16 hf.1) (fX ev 17 hf.2.1) hb (Ht1.out X (hT0.out.below hT))
  ·exact OpOk.l (x := .tmp 1) hk.1 (on_blk_mul (H4.out.below hT).right.right) hu HsA4.out
  ·exact OpOk.run (v := .bool false) (W' := X) (by
    unfold execOp
    simp only [fX ev 18 hf.1, fX ev 19 hf.2.1, Sem.run_bind, run_eqGuard_agg X _ _ _ _ _ _ Hgd.out, run_neq_struct, HQ9.out X, Result.andThen_ok]
    rfl) ⟨rfl, Stay.refl _⟩
  intro w5 hX
  rintro _ - _ - _ - _ - _ rfl
  obtain ⟨H5, S5⟩ := nx H4.out S4.out hX
  clear hX H4 S4 hT0
  go_wp2
  refine Rest.done ?_
  by_cases ho : r1 % 2 = 1
  ·have HE := hide (HV.out.trans (if_pos ho))
   have Ho9 := hide (Ho1.out)
   simp only [ho, decide_true] at Ho9
   clear ho HV
   have g0 := on_blk_mul H5.out
   go_wp2_with (first
    | (refine wL g0 hu HsX1 ?_))
   clear g0
   refine (Ho9.out _).mono ?_
   rintro e w6 ⟨rfl, hB⟩
   obtain ⟨H6, S6⟩ := nx H5.out S5.out hB
   clear hB H5 S5
   have g0 := on_blk_mul H6.out
   go_wp2_with (first
    | (refine wL g0 hu HsX1 ?_))
   clear g0
   refine (Hn1.out _ (hT.below (all_below H6.out.right.right.right S6.out))).mono ?_
   rintro e w7 ⟨rfl, hB⟩
   obtain ⟨H7, S7⟩ := nx H6.out S6.out hB
   clear hB H6 S6
   have H8 := hide (st0 H7.out (cs := N1))
   have S8 := hide (S7.out.setRow (p5) N1)
   have gW := on_blk_mul H7.out
   have g0 := on_blk_mul H8.out
   have gR := on_blk_mul H8.out.right
   have HB := hide (all_below H8.out.right.right.right S8.out)
   go_wp2_with (first
    | (refine wS gW HsN1.out (HzX1.out.symm.trans HzN1.out) HoN1.out ?_)
    | (refine wS gR HsN1 HzN1 HoN1 ?_)
    | (refine wL g0 hu HsN1 ?_))
   exact retT Tryz.results103 gR hu HsN1.out rfl (.bool true) (by rw [HE.out, HN1.out]) HB.out (by omega)
  have HE := hide (HV.out.trans (if_neg ho))
  have Ho9 := hide (Ho1.out)
  simp only [ho, decide_false] at Ho9
  clear ho HV
  have g0 := on_blk_mul H5.out
  go_wp2_with (first
   | (refine wL g0 hu HsX1 ?_))
  clear g0
  refine (Ho9.out _).mono ?_
  rintro e w6 ⟨rfl, hB⟩
  obtain ⟨H6, S6⟩ := nx H5.out S5.out hB
  clear hB H5 S5
  have g0 := on_blk_mul H6.out
  have gR := on_blk_mul H6.out.right
  have HB := hide (all_below H6.out.right.right.right S6.out)
  go_wp2_with (first
   | (refine bz4 rfl rfl Z4 HZ4.out ?_)
   | (refine wS gR HsX1 HzX1 HoX1 ?_)
   | (refine wL g0 hu HsX1 ?_))
  exact retT Tryz.results103 gR hu HsX1.out rfl (.bool true) (by rw [HE.out, HX1.out]) HB.out (by omega)
 have hq9 := Hq1.out
 simp only [h1, decide_false] at hq9
 have HQ9 := hide hq9
 have HV0 := HrV.out
 rw [Hr2.out, if_neg h1] at HV0
 clear hq9 h1 Hr2 HrV
 have HV1 := hide HV0
 clear HV0
 have hT0 := hide (hT.below (all_below H3.out.right.right.right S3.out))
 go_wp2_with fail
 refine rV (iv [.agg X1, .agg X1, .agg Y1, .agg A4, .bool true]) ?t55 ?r66
 case' t55 => refine ⟨?_, ?_, ?_, ?_, ?_, trivial⟩ <;> intro ev X hT hb hk hf
 ·exact OpOk.l (x := .tmp 4) hk.1 (on_blk_mul (H3.out.below hT)) hu HsX1.out
 ·exact OpOk.l (x := .tmp 4) hk.1 (on_blk_mul (H3.out.below hT)) hu HsX1.out
 ·exact OpOk.c2 (fX ev 8 hf.1) (fX ev 9 hf.2.1) hb (Ht1.out X (hT0.out.below hT))
 ·exact OpOk.l (x := .tmp 1) hk.1 (on_blk_mul (H3.out.below hT).right.right) hu HsA4.out
 ·exact OpOk.run (v := .bool true) (W' := X) (by
   unfold execOp
   simp only [fX ev 10 hf.1, fX ev 11 hf.2.1, Sem.run_bind, run_eqGuard_agg X _ _ _ _ _ _ Hgd.out, run_neq_struct, HQ9.out X, Result.andThen_ok]
   rfl) ⟨rfl, Stay.refl _⟩
 intro w4 hX
 rintro _ - _ - _ - _ - _ rfl
 obtain ⟨H4, S4⟩ := nx H3.out S3.out hX
 clear hX H3 S3 hT0
 go_wp2
 refine Rest.done ?_
 have ht := (hR.below (all_below H4.out.right.right.right S4.out)).r.part
 rw [← Hsq.out, HC4.out] at ht
 have g0 := on_blk_mul H4.out
 go_wp2_with (first
  | (refine wL g0 hu HsX1 ?_)
  | (refine wpList_load_part rfl _ _ rfl 9 0 rfl C4 _ ht hu rfl HsC4 ?_))
 clear ht g0
 refine (Ht2.out _ (hT.below (all_below H4.out.right.right.right S4.out))).mono ?_
 rintro e w5 ⟨rfl, hB⟩
 obtain ⟨H5, S5⟩ := nx H4.out S4.out hB
 clear hB H4 S4
 have H6 := hide (st0 H5.out (cs := X2))
 have S6 := hide (S5.out.setRow (p5) X2)
 have gW := on_blk_mul H5.out
 go_wp2_with (first
  | (refine wS gW HsX2.out (HzX1.out.symm.trans HzX2.out) HoX2.out ?_))
 generalize w5.setRow p5 X2 = w6 at *
 clear gW H5 S5
 by_cases h2 : r1 * sq % P5 * (r1 * sq % P5) % P5 = a
 ·have HV := hide (HV1.out.trans (if_pos h2))
  have hq9 := Hq2.out
  simp only [h2, decide_true] at hq9
  have HQ8 := hide hq9
  clear hq9 h2
  have hT0 := hide (hT.below (all_below H6.out.right.right.right S6.out))
  go_wp2_with fail
  refine rV (iv [.agg X2, .agg X2, .agg Y2, .agg A4, .bool false]) ?t56 ?r67
  case' t56 => refine ⟨?_, ?_, ?_, ?_, ?_, trivial⟩ <;> intro ev X hT hb hk hf
  ·exact OpOk.l (x := .tmp 4) hk.1 (on_blk_mul (H6.out.below hT)) hu HsX2.out
  ·exact OpOk.l (x := .tmp 4) hk.1 (on_blk_mul (H6.out.below hT)) hu HsX2.out
  ·exact OpOk.c2 (fX ev 16 hf.1) (fX ev 17 hf.2.1) hb (Ht3.out X (hT0.out.below hT))
  ·exact OpOk.l (x := .tmp 1) hk.1 (on_blk_mul (H6.out.below hT).right.right) hu HsA4.out
  ·exact OpOk.run (v := .bool false) (W' := X) (by
    unfold execOp
    simp only [fX ev 18 hf.1, fX ev 19 hf.2.1, Sem.run_bind, run_eqGuard_agg X _ _ _ _ _ _ Hgd.out, run_neq_struct, HQ8.out X, Result.andThen_ok]
    rfl) ⟨rfl, Stay.refl _⟩
  intro w7 hX
  rintro _ - _ - _ - _ - _ rfl
  obtain ⟨H7, S7⟩ := nx H6.out S6.out hX
  clear hX H6 S6 hT0
  go_wp2
  refine Rest.done ?_
  by_cases ho : r1 * sq % P5 % 2 = 1
  ·have HE := hide (HV.out.trans (if_pos ho))
   have Ho9 := hide (Ho2.out)
   simp only [ho, decide_true] at Ho9
   clear ho HV
   have g0 := on_blk_mul H7.out
   go_wp2_with (first
    | (refine wL g0 hu HsX2 ?_))
   clear g0
   refine (Ho9.out _).mono ?_
   rintro e w8 ⟨rfl, hB⟩
   obtain ⟨H8, S8⟩ := nx H7.out S7.out hB
   clear hB H7 S7
   have g0 := on_blk_mul H8.out
   go_wp2_with (first
    | (refine wL g0 hu HsX2 ?_))
   clear g0
   refine (Hn2.out _ (hT.below (all_below H8.out.right.right.right S8.out))).mono ?_
   rintro e w9 ⟨rfl, hB⟩
   obtain ⟨H9, S9⟩ := nx H8.out S8.out hB
   clear hB H8 S8
   have H10 := hide (st0 H9.out (cs := N2))
   have S10 := hide (S9.out.setRow (p5) N2)
   have gW := on_blk_mul H9.out
   have g0 := on_blk_mul H10.out
   have gR := on_blk_mul H10.out.right
   have HB := hide (all_below H10.out.right.right.right S10.out)
   go_wp2_with (first
    | (refine wS gW HsN2.out (HzX2.out.symm.trans HzN2.out) HoN2.out ?_)
    | (refine wS gR HsN2 HzN2 HoN2 ?_)
    | (refine wL g0 hu HsN2 ?_))
   exact retT Tryz.results103 gR hu HsN2.out rfl (.bool true) (by rw [HE.out, HN2.out]) HB.out (by omega)
  have HE := hide (HV.out.trans (if_neg ho))
  have Ho9 := hide (Ho2.out)
  simp only [ho, decide_false] at Ho9
  clear ho HV
  have g0 := on_blk_mul H7.out
  go_wp2_with (first
   | (refine wL g0 hu HsX2 ?_))
  clear g0
  refine (Ho9.out _).mono ?_
  rintro e w8 ⟨rfl, hB⟩
  obtain ⟨H8, S8⟩ := nx H7.out S7.out hB
  clear hB H7 S7
  have g0 := on_blk_mul H8.out
  have gR := on_blk_mul H8.out.right
  have HB := hide (all_below H8.out.right.right.right S8.out)
  go_wp2_with (first
   | (refine bz4 rfl rfl Z4 HZ4.out ?_)
   | (refine wS gR HsX2 HzX2 HoX2 ?_)
   | (refine wL g0 hu HsX2 ?_))
  exact retT Tryz.results103 gR hu HsX2.out rfl (.bool true) (by rw [HE.out, HX2.out]) HB.out (by omega)
 have HE := hide (HV1.out.trans (if_neg h2))
 have hq9 := Hq2.out
 simp only [h2, decide_false] at hq9
 have HQ8 := hide hq9
 clear hq9 h2
 have hT0 := hide (hT.below (all_below H6.out.right.right.right S6.out))
 go_wp2_with fail
 refine rV (iv [.agg X2, .agg X2, .agg Y2, .agg A4, .bool true]) ?t57 ?r68
 case' t57 => refine ⟨?_, ?_, ?_, ?_, ?_, trivial⟩ <;> intro ev X hT hb hk hf
 ·exact OpOk.l (x := .tmp 4) hk.1 (on_blk_mul (H6.out.below hT)) hu HsX2.out
 ·exact OpOk.l (x := .tmp 4) hk.1 (on_blk_mul (H6.out.below hT)) hu HsX2.out
 ·exact OpOk.c2 (fX ev 16 hf.1) (fX ev 17 hf.2.1) hb (Ht3.out X (hT0.out.below hT))
 ·exact OpOk.l (x := .tmp 1) hk.1 (on_blk_mul (H6.out.below hT).right.right) hu HsA4.out
 ·exact OpOk.run (v := .bool true) (W' := X) (by
   unfold execOp
   simp only [fX ev 18 hf.1, fX ev 19 hf.2.1, Sem.run_bind, run_eqGuard_agg X _ _ _ _ _ _ Hgd.out, run_neq_struct, HQ8.out X, Result.andThen_ok]
   rfl) ⟨rfl, Stay.refl _⟩
 intro w7 hX
 rintro _ - _ - _ - _ - _ rfl
 obtain ⟨H7, S7⟩ := nx H6.out S6.out hX
 clear hX H6 S6 hT0
 go_wp2
 refine Rest.done ?_
 have g0 := on_blk_mul H7.out
 have gR := on_blk_mul H7.out.right
 have HB := hide (all_below H7.out.right.right.right S7.out)
 go_wp2_with (first
  | (refine bz4 rfl rfl Z4 HZ4.out ?_)
  | (refine wS gR HsZ4.out rfl HoZ4.out ?_))
 exact retT Tryz.results103 gR hu HsZ4.out rfl (.bool false) (by rw [HE.out]) HB.out (by omega)
theorem redP_self (n : Nat) : (n = redP n) ↔ n < P5 := by
 unfold redP
 constructor
 ·intro h
  split at h
  ·assumption
  have : 0 < P5 := by decide
  omega
 intro h; rw [if_pos h]
def decE (l : List UInt8) : Value := if leN l < P5 then .tuple #[.agg (q4 (leN l)), .int .i64 0] else .tuple #[.agg (q4 0), .int .i64 7]
theorem decode_any (l : List UInt8) (hl : l.length = 32) (w : World) (hO : Tab5 w) :
  Calls Tryz.prog 85 #[.agg (zb l)] w fun e w' => e = .returned (decE l) ∧ Below w.heap.size w w' := by
 have hu := Tryz.underlying126
 have hu6 := Tryz.underlying50
 have hu8 := Tryz.underlying5
 have hu32 := Tryz.underlying22
 have hz : ∀ w, (zeroValue 126).run Tryz.prog w = .ok (.agg (q4 0)) w := fun w => by rw [qz4]; kernel_rfl
 have Hs : ∀ n, (Tryz.prog.info? 126).map (·.size) = some (q4 n).size := fun n => by rw [q4_size]; kernel_rfl
 have hs8 : (Tryz.prog.info? 50).map (·.size) = some 1 := by kernel_rfl
 have hsb : (Tryz.prog.info? 22).map (·.size) = some (zb l).size := by rw [show (zb l).size = 32 by simp [zb, vbs, hl]]; kernel_rfl
 have Hgd : Hid (Tryz.prog.eqGuardType Tryz.prog.depth 126 = false) := hide (by kernel_rfl)
 have hlt := leN_lt l
 rw [hl, show 256 ^ 32 = 18446744073709551616 ^ 4 from rfl] at hlt
 have HN := hide (Hs (leN l))
 have H00 := hide (Hs 0)
 have HQ := hide (fun X => eq_q4 X 9998 126 hu (leN l) (redP (leN l)) hlt (by unfold redP; split <;> omega))
 have HQd := hide (redP_self (leN l))
 have Hdec : Hid (decE l = if leN l < P5 then .tuple #[.agg (q4 (leN l)), .int .i64 0] else .tuple #[.agg (q4 0), .int .i64 7]) := hide rfl
 have h0 := (((on_all w).alloc (.cells (zb l) 22)).alloc (.cells (q4 0) 126)).alloc (.cells (q4 0) 126)
 have hs0 := (((Str.refl w).alloc (.cells (zb l) 22)).alloc (.cells (q4 0) 126)).alloc (.cells (q4 0) 126)
 simp only [World.size_alloc] at h0
 have H0 := hide h0
 have HS0 := hide hs0
 have HO := hide hO
 have Hl := hide hl
 have Hlt := hide hlt
 have gB := on_blk_mul H0.out.right.right
 have Hib : Hid (∀ (X : World) (k : Nat) (x : UInt8), l[k]? = some x → k < 32 → (Instr.index 22 (.agg (zb l)) (.int .i64 (k : Int))).run Tryz.prog X = .ok (vb x) X) := hide fun X k x hx hk => run_index_one X 22 5 32 (zb l) k (vb x) .u8 hu32 hu8 (by kernel_rfl) hk (by simp [zb, vbs, hx])
 clear h0 hs0 hO hl hlt
 generalize hB : zb l = B at *
 generalize hZ : q4 0 = Z4 at *
 have HZ := hide hZ
 have HsB := hide hsb
 clear hB hZ hsb
 go_enter Tryz.func85, Tryz.ntmps85
 go_wp2_with (refine wL gB hu32 HsB ?_)
 generalize ((w.alloc (.cells B 22)).alloc (.cells Z4 126)).alloc (.cells Z4 126) = w1 at *
 go_loopw [8] (fun i wr => ∃ k : Nat, k ≤ 32 ∧ i = .int .i64 k ∧ (blk (w.heap.size + 1 + 1) (.cells (q4 (leN (l.take k))) 126 (0, 0)) * (blk (w.heap.size + 1) (.cells Z4 126 (0, 0)) * (blk w.heap.size (.cells B 22 (0, 0)) * all w))).on wr ∧ Str w wr) (fun i _ => 32 - (intOf i).toNat)
 case atStart =>
  refine ⟨0, by omega, rfl, ?_, HS0.out⟩
  rw [List.take_zero, show leN [] = 0 from rfl, HZ.out]
  exact H0.out
 obtain ⟨k, hk, rfl, hX, hS2⟩ := hrel
 have HXk := hide hX
 have HSk := hide hS2
 clear hX hS2 H0 HS0 gB
 by_cases hlt : k < 32
 ·have hkl : k < l.length := by rw [Hl.out]; exact hlt
  have hib := Hib.out wr k l[k] (by simp [hkl]) hlt
  have hn := leN_lt (l.take k)
  rw [List.length_take, Nat.min_eq_left (by omega)] at hn
  have hq4 : k / 8 < 4 := by omega
  obtain ⟨hor, hle, _⟩ := byte_step (leN (l.take k)) l[k].toNat k hn (UInt8.toNat_lt _)
  rw [← leN_take l k hkl] at hor
  have hset := qs_byte l k hkl hq4
  have l1 := limb_lt (leN (l.take k)) (k / 8)
  have l2 := limb_lt (leN (l.take (k + 1))) (k / 8)
  have h4 : (q4 (leN (l.take k)))[k / 8]? = some (lv (limb (leN (l.take k)) (k / 8))) := lvs_get _ (k / 8) _ (qs_get 4 (leN (l.take k)) _ hq4)
  have hx8 := UInt8.toNat_lt l[k]
  obtain ⟨P1, hP1⟩ : ∃ P1, P1 = q4 (leN (l.take k)) := ⟨_, rfl⟩
  obtain ⟨P2, hP2⟩ : ∃ P2, P2 = q4 (leN (l.take (k + 1))) := ⟨_, rfl⟩
  have HP2 := hide hP2
  have Hp2 := hide (show P1.setIfInBounds (k / 8) (lv (limb (leN (l.take (k + 1))) (k / 8))) = P2 by rw [hP1, hP2, lvs_set, hset])
  have Hps := hide (show P1.size = 4 by rw [hP1, q4_size])
  rw [← hP1] at h4 HXk
  have q1 : bits .or .u64 ((limb (leN (l.take k)) (k / 8) : Nat) : Int) ((l[k].toNat * 2 ^ (8 * (k % 8)) : Nat) : Int) = ((limb (leN (l.take (k + 1))) (k / 8) : Nat) : Int) := (u64_or_nat _ _ l1 hle).trans (congrArg Int.ofNat hor.symm)
  have q2 : IntKind.u64.wrap ((l[k].toNat : Int) * 2 ^ (8 * (k % 8))) = ((l[k].toNat * 2 ^ (8 * (k % 8)) : Nat) : Int) := by
   rw [show (l[k].toNat : Int) * 2 ^ (8 * (k % 8)) = ((l[k].toNat * 2 ^ (8 * (k % 8)) : Nat) : Int) by rw [Int.natCast_mul, Int.natCast_pow]; rfl]
   exact wrapS _ hle
  have s8 : IntKind.i64.wrap (8 * ((k % 8 : Nat) : Int)) = ((8 * (k % 8) : Nat) : Int) := by rw [IntWalk.i64_in _ (by omega)]; omega
  have H4 := hide h4
  have Hq1 := hide q1
  have Hq2 := hide q2
  clear h4 hset hP1 hP2 hor hle hn l1 l2 q1 q2
  generalize l[k].toNat * 2 ^ (8 * (k % 8)) = sh at *
  generalize limb (leN (l.take k)) (k / 8) = u at *
  generalize limb (leN (l.take (k + 1))) (k / 8) = r at *
  generalize l[k] = x at *
  have c1 : IntKind.i64.wrap ((k : Int) / 8) = ((k / 8 : Nat) : Int) := by rw [IntWalk.i64_in _ (by omega)]; omega
  have c2 : ((k : Int)).tmod 8 = ((k % 8 : Nat) : Int) := by rw [Int.tmod_eq_emod_of_nonneg (by omega)]; omega
  have c5 : IntKind.u64.wrap ((x.toNat : Nat) : Int) = ((x.toNat : Nat) : Int) := wrapS _ (by have := UInt8.toNat_lt x; omega)
  have hk4 : ((k / 8 : Nat) : Int) < 4 := by omega
  have hr8 : 8 * (k % 8) < 64 := by omega
  generalize hqk : k / 8 = q at *
  generalize hrk : k % 8 = m at *
  have Hqk := hide hqk
  have Hrk := hide hrk
  clear hqk hrk
  go_wp2_with fail
  refine Multi.wp_region_multi [12] [12] [isV (.int .i64 (k : Int)), isV (.int .i64 ((q : Nat) : Int)), isV (.pointer (some ⟨w.heap.size + 1 + 1, q, .none⟩)), isV (lv u), isV (vb x), isV (lv x.toNat), isV (.int .i64 (k : Int)), isV (.int .i64 ((m : Nat) : Int)), isV (.int .i64 ((8 * m : Nat) : Int)), isV (lv sh), isV (lv r), isV (.pointer (some ⟨w.heap.size + 1 + 1, q, .none⟩)), (fun _ _ => True)]
   (by kernel_rfl) (by kernel_rfl) (by kernel_rfl) ⟨rfl, trivial⟩ (fun f X => (blk (w.heap.size + 1 + 1) (.cells (if f 12 = true then P2 else P1) 126 (0, 0)) * (blk (w.heap.size + 1) (.cells Z4 126 (0, 0)) * (blk w.heap.size (.cells B 22 (0, 0)) * all w))).on X ∧ Str w X) ⟨SP.on.drew HXk.out, Str.drew HSk.out⟩ (fun f a b h st => ⟨h.1.below st, h.2.trans (Str.below st)⟩) (fun f g X h hI => by rw [← h 12 rfl]; exact hI) kP ?todo ?r69 (by decide)
  case todo =>
   refine ⟨?_, ?_, ?_, ?_, ?_, ?_, ?_, ?_, ?_, ?_, ?_, ?_, ?_, trivial⟩
   ·intro f hf0 hw hn ev X hT hb hk hf
    have e0 : ev (.tmp 5) = .int .i64 (k : Int) := fP hk.1 (by kernel_rfl)
    exact OpOk.move rfl e0 (Multi.ended_stay rfl rfl (Stay.refl _))
   ·intro f hf0 hw hn ev X hT hb hk hf
    exact OpOk.run (by simp [execOp, fX ev 12 hf.1, hb.1, c1, go_sem]) (Multi.ended_stay rfl rfl (Stay.refl _))
   ·intro f hf0 hw hn ev X hT hb hk hf
    have e0 : ev (.tmp 4) = .pointer (some ⟨w.heap.size + 1 + 1, 0, .none⟩) := fP hk.1 (by kernel_rfl)
    exact OpOk.run (by simp [execOp, e0, fX ev 13 hf.1, hk4, go_sem]; try (intro h; omega)) (Multi.ended_stay rfl rfl (Stay.refl _))
   ·intro f hf0 hw hn ev X hT hb hk hf
    have f12 : f 12 = false := hn 12 (by kernel_rfl)
    have hX := hT.1
    rw [f12, if_neg (by decide)] at hX
    have cW := (cell_of_row X (w.heap.size + 1 + 1) (q) _ _ _ (on_blk_mul hX)).trans H4.out
    exact OpOk.run (by simp [execOp, fX ev 14 hf.1, cW, go_sem]) (Multi.ended_stay rfl rfl (Stay.refl _))
   ·intro f hf0 hw hn ev X hT hb hk hf
    have e0 : ev (.tmp 6) = vb x := fP hk.1 (by kernel_rfl)
    exact OpOk.move rfl e0 (Multi.ended_stay rfl rfl (Stay.refl _))
   ·intro f hf0 hw hn ev X hT hb hk hf
    exact OpOk.run (by simp [execOp, fX ev 16 hf.1, hb.1, hu6, hu8, c5, go_sem]) (Multi.ended_stay rfl rfl (Stay.refl _))
   ·intro f hf0 hw hn ev X hT hb hk hf
    have e0 : ev (.tmp 5) = .int .i64 (k : Int) := fP hk.1 (by kernel_rfl)
    exact OpOk.move rfl e0 (Multi.ended_stay rfl rfl (Stay.refl _))
   ·intro f hf0 hw hn ev X hT hb hk hf
    exact OpOk.run (by simp [execOp, fX ev 18 hf.1, hb.1, c2, go_sem]) (Multi.ended_stay rfl rfl (Stay.refl _))
   ·intro f hf0 hw hn ev X hT hb hk hf
    exact OpOk.run (by simp [execOp, fX ev 19 hf.1, hb.1, s8, go_sem]) (Multi.ended_stay rfl rfl (Stay.refl _))
   ·intro f hf0 hw hn ev X hT hb hk hf
    exact OpOk.run (v := lv sh) (W' := X) (by have h9 := Hq2.out; have h8 : (8 * (m : Int)).toNat = 8 * m := (by omega); simp [execOp, fX ev 17 hf.1, fX ev 20 hf.2.1, h8, h9, go_sem]) (Multi.ended_stay rfl rfl (Stay.refl _))
   ·intro f hf0 hw hn ev X hT hb hk hf
    exact OpOk.run (v := lv r) (W' := X) (by have h9 := Hq1.out; simp [execOp, fX ev 15 hf.1, fX ev 21 hf.2.1, h9, go_sem]) (Multi.ended_stay rfl rfl (Stay.refl _))
   ·intro f hf0 hw hn ev X hT hb hk hf
    have e0 : ev (.tmp 4) = .pointer (some ⟨w.heap.size + 1 + 1, 0, .none⟩) := fP hk.1 (by kernel_rfl)
    exact OpOk.run (by simp [execOp, e0, fX ev 13 hf.1, hk4, go_sem]; try (intro h; omega)) (Multi.ended_stay rfl rfl (Stay.refl _))
   intro f hf0 hw hn ev X hT hb hk hf
   try dsimp only at hT
   rw [hf0, if_neg (by decide)] at hT
   have hX := hT.1
   exact OpOk.store_one _ _ _ rfl (w.heap.size + 1 + 1) q (lv r) (fX ev 23 hf.1) (fX ev 22 hf.2.1) rfl _ P1 hX hs8 (by rw [Hps.out]; omega) rfl P2 Hp2.out (fun h3 => Multi.ended_turn rfl trivial ⟨h3, hT.2.setRow _ _⟩ (Multi.free_keep fR _ _))
  intro X hT
  rintro _ rfl _ rfl _ rfl _ rfl _ rfl _ rfl _ rfl _ rfl _ rfl _ rfl _ rfl _ rfl _ -
  try dsimp only at hT
  rw [if_pos rfl] at hT
  have HX2 := hide hT.1
  have HST := hide hT.2
  clear hT
  go_wp2
  refine Rest.done ?_
  go_wp2
  refine ⟨⟨k + 1, by omega, by simp, by rw [← HP2.out]; exact HX2.out, HST.out⟩, by simp [intOf]; omega⟩
 obtain rfl : k = 32 := by omega
 rw [List.take_of_length_le (by rw [Hl.out]; omega)] at HXk
 have gA := on_blk_mul HXk.out
 have gR := on_blk_mul HXk.out.right
 have hBw := all_below HXk.out.right.right.right HSk.out
 have HBw := hide hBw
 have HO2 := hide (HO.out.below hBw)
 have lA := (Array.getElem?_eq_some_iff.1 gA).1
 have lR := (Array.getElem?_eq_some_iff.1 gR).1
 have GA := hide gA
 have GR := hide gR
 have Hzz : Hid (Z4.size = 4) := hide (by rw [← HZ.out, q4_size])
 clear hBw HXk gA gR
 by_cases hlo : leN l < P5
 ·have HD := hide (show decE l = .tuple #[.agg (q4 (leN l)), .int .i64 0] by rw [Hdec.out, if_pos hlo])
  have HQ2 : Hid (∀ X, (Op.equalIn 10000 126 (.agg (q4 (leN l))) (.agg (q4 (redP (leN l))))).run Tryz.prog X = .ok true X) := hide (fun X => by rw [HQ.out X, decide_eq_true (HQd.out.2 hlo)])
  have Hza := hide (show Z4.size = (q4 (leN l)).size by rw [Hzz.out, q4_size])
  have Hone := hide (lvs_one (qs 4 (leN l)))
  clear hlo HQ HQd Hdec
  go_wp2_with fail
  refine rV (iv [.agg (q4 (leN l)), .agg (q4 (leN l)), .agg (q4 (redP (leN l))), .bool false]) ?t58 ?r70
  case' t58 => refine ⟨?_, ?_, ?_, ?_, trivial⟩ <;> intro ev X hT hb hk hf
  ·exact OpOk.l (fV ev 4 (.pointer (some ⟨w.heap.size + 1 + 1, 0, .none⟩)) hk.1) ((hT.block _ (by simpa using lA)).trans GA.out) hu HN.out
  ·exact OpOk.l (fV ev 4 (.pointer (some ⟨w.heap.size + 1 + 1, 0, .none⟩)) hk.1) ((hT.block _ (by simpa using lA)).trans GA.out) hu HN.out
  ·exact OpOk.c1 (fX ev 26 hf.1) hb (reduced_any (leN l) Hlt.out X (HO2.out.below hT))
  ·exact OpOk.run (v := .bool false) (W' := X) (by
    unfold execOp
    simp only [fX ev 25 hf.1, fX ev 27 hf.2.1, Sem.run_bind, run_eqGuard_agg X _ _ _ _ _ _ Hgd.out, run_neq_struct, HQ2.out X, Result.andThen_ok]
    rfl) ⟨rfl, Stay.refl _⟩
  intro X hT
  rintro _ - _ - _ - _ rfl
  have gA := (hT.block _ (by simpa using lA)).trans GA.out
  have gR := (hT.block _ (by simpa using lR)).trans GR.out
  have HBX := hide (HBw.out.trans (hT.mono HBw.out.size))
  clear hT
  rw [show lvs (qs 4 (leN l)) = q4 (leN l) from rfl] at Hone
  generalize hR4 : q4 (leN l) = R4 at *
  go_wp2
  refine Rest.done ?_
  have HsR := HN.out
  have hza := Hza.out
  have hone := Hone.out
  have HR4 := hide hR4
  clear hR4
  go_wp2_with (first
   | (refine wS gR HsR hza hone ?_)
   | (refine wL gA hu HsR ?_))
  refine rT Tryz.results85 gR hu HsR (.int .i64 0) ⟨by rw [HD.out], below_setRow HBX.out (by omega) _⟩
 have HD := hide (show decE l = .tuple #[.agg Z4, .int .i64 7] by rw [Hdec.out, if_neg hlo])
 have HQ2 : Hid (∀ X, (Op.equalIn 10000 126 (.agg (q4 (leN l))) (.agg (q4 (redP (leN l))))).run Tryz.prog X = .ok false X) := hide (fun X => by rw [HQ.out X, decide_eq_false (fun h => hlo (HQd.out.1 h))])
 have Hone : Hid (Z4.all (·.oneCell') = true) := hide (by rw [← HZ.out]; exact lvs_one (qs 4 0))
 clear hlo HQ HQd Hdec
 go_wp2_with fail
 refine rV (iv [.agg (q4 (leN l)), .agg (q4 (leN l)), .agg (q4 (redP (leN l))), .bool true]) ?t59 ?r71
 case' t59 => refine ⟨?_, ?_, ?_, ?_, trivial⟩ <;> intro ev X hT hb hk hf
 ·exact OpOk.l (fV ev 4 (.pointer (some ⟨w.heap.size + 1 + 1, 0, .none⟩)) hk.1) ((hT.block _ (by simpa using lA)).trans GA.out) hu HN.out
 ·exact OpOk.l (fV ev 4 (.pointer (some ⟨w.heap.size + 1 + 1, 0, .none⟩)) hk.1) ((hT.block _ (by simpa using lA)).trans GA.out) hu HN.out
 ·exact OpOk.c1 (fX ev 26 hf.1) hb (reduced_any (leN l) Hlt.out X (HO2.out.below hT))
 ·exact OpOk.run (v := .bool true) (W' := X) (by
   unfold execOp
   simp only [fX ev 25 hf.1, fX ev 27 hf.2.1, Sem.run_bind, run_eqGuard_agg X _ _ _ _ _ _ Hgd.out, run_neq_struct, HQ2.out X, Result.andThen_ok]
   rfl) ⟨rfl, Stay.refl _⟩
 intro X hT
 rintro _ - _ - _ - _ rfl
 have gR := (hT.block _ (by simpa using lR)).trans GR.out
 have HBX := hide (HBw.out.trans (hT.mono HBw.out.size))
 clear hT
 go_wp2
 refine Rest.done ?_
 have HsR := H00.out
 have hone := Hone.out
 have hb0 : ∀ w, (Instr.build 126 #[]).run Tryz.prog w = .ok (.agg Z4) w := fun w => by rw [← HZ.out, qz4]; kernel_rfl
 go_wp2_with (first
  | (refine wS gR HsR rfl hone ?_))
 refine rT Tryz.results85 gR hu HsR (.int .i64 7) ⟨by rw [HD.out], below_setRow HBX.out (by omega) _⟩
def IsEl (w : World) (v : Value) (ns : List Nat) : Prop := ∃ a c, v = .slice a ns.length c ∧ (∀ k n, ns[k]? = some n → ∃ g, a = some ⟨g, 0, .none⟩ ∧ ∀ j x, (q4 n)[j]? = some x → w.cell? ⟨g, k * 4 + j, .none⟩ = some x)
theorem IsEl.below {w X : World} {v : Value} {ns : List Nat} (h : IsEl w v ns) (hb : Below w.heap.size w X) : IsEl X v ns := by
 obtain ⟨a, c, rfl, h⟩ := h
 refine ⟨a, c, rfl, fun k n hk => ?_⟩
 obtain ⟨g, rfl, hc⟩ := h k n hk
 exact ⟨g, rfl, fun j x hx => (hb.cell (World.block_lt_of_cell? _ _ (hc j x hx))).trans (hc j x hx)⟩
theorem q4_lit (n : Nat) : q4 n = #[lv (limb n 0), lv (limb n 1), lv (limb n 2), lv (limb n 3)] := rfl
theorem run_bs2 (x y : Nat) (w : World) : (Instr.buildSlice 170 2 #[(0, .agg (q4 x)), (1, .agg (q4 y))]).run Tryz.prog w = .ok (.slice (some ⟨w.heap.size, 0, .none⟩) 2 2) (w.alloc (.cells #[lv (limb x 0), lv (limb x 1), lv (limb x 2), lv (limb x 3), lv (limb y 0), lv (limb y 1), lv (limb y 2), lv (limb y 3)] 126)) := by
 rw [q4_lit, q4_lit]
 kernel_rfl
theorem run_bs3 (x y z : Nat) (w : World) : (Instr.buildSlice 170 3 #[(0, .agg (q4 x)), (1, .agg (q4 y)), (2, .agg (q4 z))]).run Tryz.prog w = .ok (.slice (some ⟨w.heap.size, 0, .none⟩) 3 3) (w.alloc (.cells #[lv (limb x 0), lv (limb x 1), lv (limb x 2), lv (limb x 3), lv (limb y 0), lv (limb y 1), lv (limb y 2), lv (limb y 3), lv (limb z 0), lv (limb z 1), lv (limb z 2), lv (limb z 3)] 126)) := by
 rw [q4_lit, q4_lit, q4_lit]
 kernel_rfl
theorem q4_at {n j : Nat} {x : Value} (h : (q4 n)[j]? = some x) : (j = 0 ∧ x = lv (limb n 0)) ∨ (j = 1 ∧ x = lv (limb n 1)) ∨ (j = 2 ∧ x = lv (limb n 2)) ∨ (j = 3 ∧ x = lv (limb n 3)) := by
 rw [q4_lit] at h
 match j, h with
 | 0, h => exact .inl ⟨rfl, by simpa using h.symm⟩
 | 1, h => exact .inr (.inl ⟨rfl, by simpa using h.symm⟩)
 | 2, h => exact .inr (.inr (.inl ⟨rfl, by simpa using h.symm⟩))
 | 3, h => exact .inr (.inr (.inr ⟨rfl, by simpa using h.symm⟩))
 | j + 4, h => simp at h
theorem IsEl.two {w : World} {g x y : Nat} {t : TypeId} {fr : Nat × Nat} (h : w.heap[g]? = some (.cells #[lv (limb x 0), lv (limb x 1), lv (limb x 2), lv (limb x 3), lv (limb y 0), lv (limb y 1), lv (limb y 2), lv (limb y 3)] t fr)) : IsEl w (.slice (some ⟨g, 0, .none⟩) 2 2) [x, y] := by
 refine ⟨_, _, rfl, fun k n hk => ⟨g, rfl, fun j v hv => ?_⟩⟩
 rw [cell_of_row w g _ _ _ _ h]
 match k, hk with
 | 0, hk =>
  obtain rfl : x = n := by simpa using hk
  rcases q4_at hv with ⟨rfl, rfl⟩ | ⟨rfl, rfl⟩ | ⟨rfl, rfl⟩ | ⟨rfl, rfl⟩ <;> rfl
 | 1, hk =>
  obtain rfl : y = n := by simpa using hk
  rcases q4_at hv with ⟨rfl, rfl⟩ | ⟨rfl, rfl⟩ | ⟨rfl, rfl⟩ | ⟨rfl, rfl⟩ <;> rfl
 | k + 2, hk => simp at hk
theorem IsEl.three {w : World} {g x y z : Nat} {t : TypeId} {fr : Nat × Nat} (h : w.heap[g]? = some (.cells #[lv (limb x 0), lv (limb x 1), lv (limb x 2), lv (limb x 3), lv (limb y 0), lv (limb y 1), lv (limb y 2), lv (limb y 3), lv (limb z 0), lv (limb z 1), lv (limb z 2), lv (limb z 3)] t fr)) : IsEl w (.slice (some ⟨g, 0, .none⟩) 3 3) [x, y, z] := by
 refine ⟨_, _, rfl, fun k n hk => ⟨g, rfl, fun j v hv => ?_⟩⟩
 rw [cell_of_row w g _ _ _ _ h]
 match k, hk with
 | 0, hk =>
  obtain rfl : x = n := by simpa using hk
  rcases q4_at hv with ⟨rfl, rfl⟩ | ⟨rfl, rfl⟩ | ⟨rfl, rfl⟩ | ⟨rfl, rfl⟩ <;> rfl
 | 1, hk =>
  obtain rfl : y = n := by simpa using hk
  rcases q4_at hv with ⟨rfl, rfl⟩ | ⟨rfl, rfl⟩ | ⟨rfl, rfl⟩ | ⟨rfl, rfl⟩ <;> rfl
 | 2, hk =>
  obtain rfl : z = n := by simpa using hk
  rcases q4_at hv with ⟨rfl, rfl⟩ | ⟨rfl, rfl⟩ | ⟨rfl, rfl⟩ | ⟨rfl, rfl⟩ <;> rfl
 | k + 3, hk => simp at hk
def sumP (l : List Nat) : Nat := l.foldl (fun s a => (s + a) % P5) 0
theorem sumP_snoc (l : List Nat) (x : Nat) : sumP (l ++ [x]) = (sumP l + x) % P5 := by simp [sumP, List.foldl_append]
theorem take_snoc (l : List Nat) (k : Nat) (h : k < l.length) : l.take (k + 1) = l.take k ++ [l[k]] := List.take_succ_eq_append_getElem h
theorem sumP_lt (l : List Nat) : sumP l < P5 := by
 rcases List.eq_nil_or_concat l with rfl | ⟨l, x, rfl⟩
 ·exact P5_pos
 rw [List.concat_eq_append, sumP_snoc]; exact Nat.mod_lt _ P5_pos
def mulP : List Nat → Nat
 | [] => 1
 | x :: l => l.foldl (fun p a => p * a % P5) x
theorem mulP_snoc (y : Nat) (l : List Nat) (x : Nat) : mulP ((y :: l) ++ [x]) = mulP (y :: l) * x % P5 := by simp [mulP, List.foldl_append]
theorem mulP_lt (l : List Nat) (h : ∀ x ∈ l, x < P5) : mulP l < P5 := by
 cases l with
 | nil => decide
 | cons y l =>
  rcases List.eq_nil_or_concat l with rfl | ⟨l, x, rfl⟩
  ·exact h y List.mem_cons_self
  rw [List.concat_eq_append, ← List.cons_append, mulP_snoc]; exact Nat.mod_lt _ P5_pos
theorem mulP_take (l : List Nat) (k : Nat) (h : k < l.length) (hk : 0 < k) : mulP (l.take (k + 1)) = mulP (l.take k) * l[k] % P5 := by
 rw [take_snoc l k h]
 cases l with
 | nil => simp at h
 | cons y l =>
  obtain ⟨j, rfl⟩ : ∃ j, k = j + 1 := ⟨k - 1, by omega⟩
  rw [List.take_succ_cons, mulP_snoc]
theorem add_any (v : Value) (ns : List Nat) (hn : ∀ x ∈ ns, x < P5) (hl : ns.length < 1000) (w : World) (hv : IsEl w v ns) (hT : Tab5 w) :
  Calls Tryz.prog 100 #[v] w fun e w' => e = .returned (.agg (q4 (sumP ns))) ∧ Below w.heap.size w w' := by
 obtain ⟨a, c, rfl, hv⟩ := hv
 have hu := Tryz.underlying126
 have hz4e := eZero
 have h0 := ((on_all w).alloc (.cells (q4 0) 126)).alloc (.cells (q4 0) 126)
 have s0 := ((Str.refl w).alloc (.cells (q4 0) 126)).alloc (.cells (q4 0) 126)
 try simp only [World.size_alloc] at h0
 have H1 := hide h0
 have S1 := hide s0
 clear h0 s0
 have HI := hide eInfo
 have HV : Hid (IsEl w (.slice a ns.length c) ns) := hide ⟨a, c, rfl, hv⟩
 have Hv := hide hv
 have Hn := hide hn
 have Hl := hide hl
 have Hc1 := hide (fun X => small_any 1 (by decide) X)
 clear hv hn hl
 obtain ⟨HsR4, HoR4, HzR4⟩ := eF (sumP ns)
 generalize hR4 : q4 (sumP ns) = R4 at *
 have HR4 := hide hR4
 clear hR4
 generalize hZ4 : q4 0 = Z4 at *
 have HZ4 := hide hZ4
 clear hZ4
 go_enter Tryz.func100, Tryz.ntmps100
 go_wp2_with fail
 generalize (w.alloc (.cells Z4 126)).alloc (.cells Z4 126) = w1 at *
 go_loopw [8] (fun i wr => ∃ k : Nat, k ≤ ns.length ∧ i = .int .i64 k ∧ (blk (w.heap.size + 1) (.cells (q4 (sumP (ns.take k))) 126 (0, 0)) * (blk w.heap.size (.cells Z4 126 (0, 0)) * all w)).on wr ∧ Str w wr) (fun i _ => ns.length - (intOf i).toNat)
 case atStart => exact ⟨0, by omega, rfl, by rw [List.take_zero, show sumP [] = 0 from rfl, HZ4.out]; exact H1.out, S1.out⟩
 obtain ⟨k, hk, rfl, hX, hS2⟩ := hrel
 have H4 := hide hX
 have S4 := hide hS2
 clear hX hS2 H1 S1
 by_cases hlt : k < ns.length
 ·have hB0 := all_below H4.out.right.right S4.out
  obtain ⟨g, rfl, hc⟩ := Hv.out k ns[k] (List.getElem?_eq_getElem hlt)
  have hx5 : ns[k] < P5 := Hn.out _ (List.getElem_mem hlt)
  have hP4 : P5 < 18446744073709551616 ^ 4 := P5_lt
  have hcell := fun j x hx => (hB0.cell (World.block_lt_of_cell? _ _ (hc j x hx))).trans (hc j x hx)
  have hs5 : sumP (ns.take k) < P5 := sumP_lt _
  have Hst := hide (show sumP (ns.take (k + 1)) = (sumP (ns.take k) + ns[k]) % P5 by rw [take_snoc ns k hlt, sumP_snoc])
  have Hc := hide (fun X h => plus_any (sumP (ns.take k)) ns[k] hs5 hx5 X h)
  generalize sumP (ns.take k) = s at *
  generalize ns[k] = x at *
  have hl9 := Hl.out
  have hkn : (k : Int) < (ns.length : Int) := by omega
  have hkn2 : (k : Int) < ((ns.length : Nat) : Int) := hkn
  clear hc hB0 hs5 hx5 hP4 hlt
  obtain ⟨HsX, HoX, HzX⟩ := b3 (HI.out x) (eOne x) (eSize 0 x)
  have HsP := hide (HI.out s)
  obtain ⟨HsR, HoR, HzR⟩ := b3 (HI.out ((s + x) % P5)) (eOne ((s + x) % P5)) (eSize s ((s + x) % P5))
  have HzX2 := hide (eSize s x)
  rw [HZ4.out] at HzX
  generalize hX : q4 x = X at *
  generalize q4 s = P at *
  generalize hR : q4 ((s + x) % P5) = R at *
  have HX := hide hX
  have HR := hide hR
  have Hcell := hide hcell
  clear hR hX hcell
  have ht := Hcell.out
  have hN := H4.out.alloc (.cells Z4 126)
  have gN := on_blk_mul hN
  have hM := hN.setRow X
  have gM := on_blk_mul hM
  have H5 := hide hM
  have S5 := hide ((S4.out.alloc (.cells Z4 126)).setRow wr.heap.size X)
  have gP := on_blk_mul hM.right
  clear hN hM
  go_wp2_with (first
   | (refine wpList_load_part rfl _ _ rfl g (k * 4) rfl X _ ht hu rfl HsX ?_)
   | (refine wS gN HsX HzX HoX ?_)
   | (refine wL gM hu HsX ?_)
   | (refine wL gP hu HsP ?_))
  generalize (wr.alloc (.cells Z4 126)).setRow wr.heap.size X = w5 at *
  clear gN gM gP H4 S4 ht
  refine (Hc.out _ (hT.below (all_below H5.out.right.right.right S5.out))).mono ?_
  rintro e w6 ⟨rfl, hB⟩
  obtain ⟨H6, S6⟩ := nx H5.out S5.out hB
  clear hB H5 S5
  have H7 := hide (st1 H6.out (cs := R))
  have S7 := hide (S6.out.setRow (w.heap.size + 1) R)
  have gW := on_blk_mul H6.out.right
  go_wp2_with (first
   | (refine wS gW HsR HzR HoR ?_))
  exact ⟨⟨k + 1, by omega, by simp, by rw [Hst.out, HR.out]; exact H7.out.right, S7.out⟩, by simp [intOf]; omega⟩
 obtain rfl : k = ns.length := by omega
 have hl9 := Hl.out
 rw [List.take_length, HR4.out] at H4
 have g0 := on_blk_mul H4.out
 have gR := on_blk_mul H4.out.right
 have HB := hide (all_below H4.out.right.right S4.out)
 go_wp2_with (first
  | (refine wS gR HsR4 HzR4 HoR4 ?_)
  | (refine wL g0 hu HsR4 ?_))
 exact retR Tryz.results100 gR hu HsR4.out rfl HB.out (by omega)
theorem mul_any (v : Value) (ns : List Nat) (hn : ∀ x ∈ ns, x < P5) (hl : ns.length < 1000) (w : World) (hv : IsEl w v ns) (hT : Tab5 w) :
  Calls Tryz.prog 99 #[v] w fun e w' => e = .returned (.agg (q4 (mulP ns))) ∧ Below w.heap.size w w' := by
 obtain ⟨a, c, rfl, hv⟩ := hv
 have hu := Tryz.underlying126
 have hz4e := eZero
 have h0 := (on_all w).alloc (.cells (q4 0) 126)
 have s0 := (Str.refl w).alloc (.cells (q4 0) 126)
 try simp only [World.size_alloc] at h0
 have H1 := hide h0
 have S1 := hide s0
 clear h0 s0
 have HI := hide eInfo
 have HV : Hid (IsEl w (.slice a ns.length c) ns) := hide ⟨a, c, rfl, hv⟩
 have Hv := hide hv
 have Hn := hide hn
 have Hl := hide hl
 have Hc1 := hide (fun X => small_any 1 (by decide) X)
 clear hv hn hl
 obtain ⟨HsR4, HoR4, HzR4⟩ := eF (mulP ns)
 obtain ⟨HsI4, HoI4, HzI4⟩ := eF (1)
 generalize hR4 : q4 (mulP ns) = R4 at *
 have HR4 := hide hR4
 clear hR4
 generalize hI4 : q4 (1) = I4 at *
 have HI4 := hide hI4
 clear hI4
 generalize hZ4 : q4 0 = Z4 at *
 have HZ4 := hide hZ4
 clear hZ4
 go_enter Tryz.func99, Tryz.ntmps99
 go_wp2_with fail
 generalize w.alloc (.cells Z4 126) = w1 at *
 refine (Hc1.out _).mono ?_
 rintro e w2 ⟨rfl, hB⟩
 obtain ⟨H2, S2⟩ := nx H1.out S1.out hB
 clear hB H1 S1
 obtain ⟨gN, gM, H3, S3⟩ := newV H2.out S2.out Z4 I4 126
 go_wp2_with (first
  | (refine wS gN HsI4 HzI4 HoI4 ?_))
 generalize (w2.alloc (.cells Z4 126)).setRow w2.heap.size I4 = w3 at *
 clear gN gM H2 S2
 generalize w2.heap.size = p5 at *
 go_loopw [9] (fun i wr => ∃ k : Nat, k ≤ ns.length ∧ i = .int .i64 k ∧ (blk p5 (.cells (q4 (mulP (ns.take k))) 126 (0, 0)) * (blk w.heap.size (.cells Z4 126 (0, 0)) * all w)).on wr ∧ Str w wr) (fun i _ => ns.length - (intOf i).toNat)
 case atStart => exact ⟨0, by omega, rfl, by rw [List.take_zero, show mulP [] = 1 from rfl, HI4.out]; exact H3.out, S3.out⟩
 obtain ⟨k, hk, rfl, hX, hS2⟩ := hrel
 have H4 := hide hX
 have S4 := hide hS2
 clear hX hS2 H3 S3
 by_cases hlt : k < ns.length
 ·have hB0 := all_below H4.out.right.right S4.out
  obtain ⟨g, rfl, hc⟩ := Hv.out k ns[k] (List.getElem?_eq_getElem hlt)
  have hx5 : ns[k] < P5 := Hn.out _ (List.getElem_mem hlt)
  have hP4 : P5 < 18446744073709551616 ^ 4 := P5_lt
  have hcell := fun j x hx => (hB0.cell (World.block_lt_of_cell? _ _ (hc j x hx))).trans (hc j x hx)
  have hs5 : mulP (ns.take k) < P5 := mulP_lt _ (fun x hx => Hn.out x (List.mem_of_mem_take hx))
  have Hst := hide (fun h => mulP_take ns k hlt h)
  have Hst0 := hide (fun (h : k = 0) => show mulP (ns.take (k + 1)) = ns[k] by subst h; cases ns with | nil => simp at hlt | cons y l => rfl)
  have Hc := hide (fun X h => times_any (mulP (ns.take k)) ns[k] (by omega) (by omega) X h)
  generalize mulP (ns.take k) = s at *
  generalize ns[k] = x at *
  have hl9 := Hl.out
  have hkn : (k : Int) < (ns.length : Int) := by omega
  have hkn2 : (k : Int) < ((ns.length : Nat) : Int) := hkn
  clear hc hB0 hs5 hx5 hP4 hlt
  obtain ⟨HsX, HoX, HzX⟩ := b3 (HI.out x) (eOne x) (eSize 0 x)
  have HsP := hide (HI.out s)
  obtain ⟨HsR, HoR, HzR⟩ := b3 (HI.out (s * x % P5)) (eOne (s * x % P5)) (eSize s (s * x % P5))
  have HzX2 := hide (eSize s x)
  rw [HZ4.out] at HzX
  generalize hX : q4 x = X at *
  generalize q4 s = P at *
  generalize hR : q4 (s * x % P5) = R at *
  have HX := hide hX
  have HR := hide hR
  have Hcell := hide hcell
  clear hR hX hcell
  have ht := Hcell.out
  have hN := H4.out.alloc (.cells Z4 126)
  have gN := on_blk_mul hN
  have hM := hN.setRow X
  have gM := on_blk_mul hM
  have H5 := hide hM
  have S5 := hide ((S4.out.alloc (.cells Z4 126)).setRow wr.heap.size X)
  have gP := on_blk_mul hM.right
  clear hN hM
  by_cases h0 : k = 0
  ·have HN := hide (Hst0.out h0)
   have ht0 : ∀ j x, X[j]? = some x → wr.cell? ⟨g, 0 + j, .none⟩ = some x := by have h9 := ht; rw [h0, Nat.zero_mul] at h9; exact h9
   have hn0 : 0 < ns.length := by omega
   subst h0
   have H6 := hide (st1 H5.out (cs := X))
   have S6 := hide (S5.out.setRow (p5) X)
   go_wp2_with (first
    | (refine wpList_load_part rfl _ _ rfl g 0 rfl X _ ht0 hu rfl HsX ?_)
    | (refine wS gN HsX HzX HoX ?_)
    | (refine wL gM hu HsX ?_)
    | (refine wS gP HsX HzX2 HoX ?_))
   exact ⟨⟨0 + 1, by omega, by simp, by rw [HN.out, HX.out]; exact H6.out.right, S6.out⟩, by simp [intOf]; omega⟩
  have HN := hide (Hst.out (by omega))
  have hk0 : ¬ (k : Int) = 0 := by omega
  clear h0
  go_wp2_with (first
   | (refine wpList_load_part rfl _ _ rfl g (k * 4) rfl X _ ht hu rfl HsX ?_)
   | (refine wS gN HsX HzX HoX ?_)
   | (refine wL gM hu HsX ?_)
   | (refine wL gP hu HsP ?_))
  generalize (wr.alloc (.cells Z4 126)).setRow wr.heap.size X = w5 at *
  clear gN gM gP H4 S4 ht
  refine (Hc.out _ (hT.below (all_below H5.out.right.right.right S5.out))).mono ?_
  rintro e w6 ⟨rfl, hB⟩
  obtain ⟨H6, S6⟩ := nx H5.out S5.out hB
  clear hB H5 S5
  have H7 := hide (st1 H6.out (cs := R))
  have S7 := hide (S6.out.setRow (p5) R)
  have gW := on_blk_mul H6.out.right
  go_wp2_with (first
   | (refine wS gW HsR HzR HoR ?_))
  exact ⟨⟨k + 1, by omega, by simp, by rw [HN.out, HR.out]; exact H7.out.right, S7.out⟩, by simp [intOf]; omega⟩
 obtain rfl : k = ns.length := by omega
 have hl9 := Hl.out
 rw [List.take_length, HR4.out] at H4
 have g0 := on_blk_mul H4.out
 have gR := on_blk_mul H4.out.right
 have HB := hide (all_below H4.out.right.right S4.out)
 go_wp2_with (first
  | (refine wS gR HsR4 HzR4 HoR4 ?_)
  | (refine wL g0 hu HsR4 ?_))
 exact retR Tryz.results99 gR hu HsR4.out rfl HB.out (by omega)
end Fe
end Go.Proofs.YtjdebgbiockafaaGreatDoor
