/- sign: whether a signature is one; the document's answer. -/
import Derived.Test.YtbplbdnofobbiaaDoorSg6
set_option linter.unusedVariables false
set_option linter.unusedSimpArgs false
set_option maxRecDepth 100000
set_option maxHeartbeats 8000000
namespace Go.Proofs.YtbplbdnofobbiaaDoor
namespace Cv
open Fe
open Go.ChangeShapes Go.WideShapes Go.ChangeAt Go.RowKit
theorem decW_cases (n : Nat) : ∃ (A : Array Value) (b : Bool), decW n = .tuple #[.agg A, .bool b] ∧ (Tryd.prog.info? 31).map (·.size) = some A.size ∧ A.all (·.oneCell') = true ∧ (mC 0 0 0).size = A.size ∧
  ((b = true ∧ ∃ p, Ed.decPt (bl n) = some p ∧ A = tpC (tOf p)) ∨ (b = false ∧ Ed.decPt (bl n) = Option.none)) := by
 unfold decW
 cases h : Ed.decPt (bl n) with
 | none => exact ⟨_, _, rfl, mInfo 0 0 0, mC_one 0 0 0, rfl, .inr ⟨rfl, rfl⟩⟩
 | some p => exact ⟨_, _, rfl, mInfo _ _ _, mC_one _ _ _, mSize _ _ _ _ _ _, .inl ⟨rfl, p, rfl, (tOf_cells p).symm⟩⟩
theorem ver_take7 (r s : Nat) : (bl r ++ bl s).take 32 = bl r ∧ (bl r ++ bl s).drop 32 = bl s := by
 have h := bl_len r
 rw [List.take_append_of_le_length (by omega), List.take_of_length_le (by omega), List.drop_append_of_le_length (by omega), List.drop_of_length_le (by omega)]
 exact ⟨rfl, rfl⟩
theorem rver_no1 (k r s : Nat) (m : List UInt8) (h : Ed.decPt (bl k) = Option.none) : Sg.verB (bl k) (bl r ++ bl s) m = false := by
 unfold Sg.verB Ed.verify
 rw [h]
theorem rver_no2 (k r s : Nat) (m : List UInt8) (h : Ed.decPt (bl r) = Option.none) : Sg.verB (bl k) (bl r ++ bl s) m = false := by
 unfold Sg.verB Ed.verify
 rw [(ver_take7 r s).1, h]
 cases Ed.decPt (bl k) <;> rfl
theorem rver_no3 (k r s : Nat) (hs : s < 256 ^ 32) (m : List UInt8) (h : ¬ s < O6) : Sg.verB (bl k) (bl r ++ bl s) m = false := by
 unfold Sg.verB Ed.verify
 rw [(ver_take7 r s).1, (ver_take7 r s).2, leN_bl s hs, decide_eq_false h]
 cases Ed.decPt (bl k) <;> cases Ed.decPt (bl r) <;> rfl
theorem rver_is (k r s : Nat) (hs : s < 256 ^ 32) (m : List UInt8) (a p : Ed.Pt) (h1 : Ed.decPt (bl k) = some a) (h2 : Ed.decPt (bl r) = some p) (h : s < O6) :
  Sg.verB (bl k) (bl r ++ bl s) m = decide (Ed.Pt.base.mul s = p.sum (a.mul (Sg.chalN (bl r ++ bl k ++ m)))) := by
 unfold Sg.verB Ed.verify
 rw [(ver_take7 r s).1, (ver_take7 r s).2, h1, h2]
 dsimp only
 rw [leN_bl s hs, decide_eq_true h, Bool.true_and]
 rfl
def hL (a : List UInt8) (k : Nat) : List UInt8 := a.take k ++ (List.replicate 32 0).drop k
theorem hL_0 (a : List UInt8) : zb (hL a 0) = zB 0 := by
 show zb ([] ++ List.replicate 32 0) = zb (bl 0)
 rw [bl_0]; rfl
theorem hL_32 (n : Nat) : zb (hL (bl n) 32) = zB n := by
 show zb ((bl n).take 32 ++ []) = zb (bl n)
 rw [List.append_nil, List.take_of_length_le (by rw [bl_len]; omega)]
theorem hL_get (n k j : Nat) (hk : k ≤ 32) (hj : j < 32) : ∃ x, (hL (bl n) k)[j]? = some x :=
 ⟨_, List.getElem?_eq_getElem (by simp [hL, bl_len]; omega)⟩
theorem hL_step (a : List UInt8) (k : Nat) (x : UInt8) (h : a[k]? = some x) (hk : k < 32) : (hL a k).set k x = hL a (k + 1) := half_set a _ k x h (by simp; omega)
theorem gC_1 (r s k : Nat) (x : UInt8) (h : (bl r)[k]? = some x) : (gC r s)[k]? = some (vb x) := by
 have hk : k < (bl r).length := (List.getElem?_eq_some_iff.1 h).1
 exact zb_get _ _ _ (by rw [List.getElem?_append_left hk]; exact h)
theorem gC_2 (r s k : Nat) (x : UInt8) (h : (bl s)[k]? = some x) : (gC r s)[32 + k]? = some (vb x) := by
 refine zb_get _ _ _ ?_
 rw [List.getElem?_append_right (by rw [bl_len]; omega), bl_len, Nat.add_sub_cancel_left]; exact h
theorem mverify_any (k0 r s : Nat) (hk : k0 < 256 ^ 32) (hr : r < 256 ^ 32) (hs : s < 256 ^ 32) (v : Value) (m : List UInt8) (w : World) (h : IsBytes w v m) (hm : m.length ≤ 10000) :
  Calls Tryd.prog 34 #[.agg (zB k0), v, .agg (gC r s)] w fun e w' => e = .returned (.bool (Sg.verB (bl k0) (bl r ++ bl s) m)) ∧ Below w.heap.size w w' := by
 have hub := Tryd.underlying38
 have huh := Tryd.underlying61
 have hu4 := Tryd.underlying23
 have hun := Tryd.underlying29
 have hum := Tryd.underlying31
 have hzB := zBZero
 have hzH := hZero
 have hzL := eZero4
 have hzN := nZero
 have hzM := mZero
 have h0 := ((on_all w).alloc (.cells (zB k0) 38)).alloc (.cells (gC r s) 61)
 have s0 := ((Str.refl w).alloc (.cells (zB k0) 38)).alloc (.cells (gC r s) 61)
 try simp only [World.size_alloc] at h0
 have H1 := hide h0
 have S1 := hide s0
 clear h0 s0
 have hu8s := Tryd.underlying56
 have hu8 := Tryd.underlying5
 have hu6 := Tryd.underlying22
 have hcl := Sg.chalN_lt (bl r ++ bl k0 ++ m)
 have hcl2 : Sg.chalN (bl r ++ bl k0 ++ m) < 256 ^ 32 := Nat.lt_trans hcl Sg.O6_32
 have Hget := hide (fun k (hk : k < 32) => zb_get _ k _ (bl_get s k hk))
 change Hid (∀ (k : Nat), k < 32 → (zB s)[k]? = some (vb (UInt8.ofNat (s / 256 ^ k % 256)))) at Hget
 have H32 := hide (show lvs (lw s 32) = q4 0 from congrArg lvs (lw_32 s))
 have Hl0 := hide (show lvs (lw s 0) = q4 s from congrArg lvs (lw_0 s))
 have hn1 := fun h => rver_no1 k0 r s m h
 have hn2 := fun h => rver_no2 k0 r s m h
 have hn3 := fun h => rver_no3 k0 r s hs m h
 have hv1 := fun a p h1 h2 h => rver_is k0 r s hs m a p h1 h2 h
 have hk1 := hide (fun X => mdecode_any k0 hk X)
 have hk2 := hide (fun X => mdecode_any r hr X)
 have k3 := fun X => belowL_any s (by rw [q256]; exact hs) X
 obtain ⟨bS, hbS⟩ : ∃ b, b = decide (s < O6) := ⟨_, rfl⟩
 rw [← hbS] at k3
 have hk3 := hide k3
 have HcS : Hid ((bS = true ∧ s < O6) ∨ (bS = false ∧ ¬ s < O6)) := hide (by
  by_cases h9 : s < O6
  ·exact .inl ⟨by rw [hbS, decide_eq_true h9], h9⟩
  ·exact .inr ⟨by rw [hbS, decide_eq_false h9], h9⟩)
 have hk4 := hide (fun X => md_any X)
 have hk5 := hide (fun X => mbase_any X)
 have f2 : [bl r, bl k0, m].flatten = bl r ++ bl k0 ++ m := by simp
 have k6 := fun u X (hr : IsRows X u [bl r, bl k0, m]) => mhash_any u [bl r, bl k0, m] X hr (by simp) (by rw [f2, List.length_append, List.length_append, bl_len, bl_len]; omega)
 rw [f2] at k6
 have hk6 := hide k6
 have hk7 := hide (fun X => mbase_times s hs X)
 have hk8 := hide (fun p X => mtimes_any (tOf p) (Sg.chalN (bl r ++ bl k0 ++ m)) (by rw [q256]; exact hcl2) X)
 have hk9 := hide (fun (p q : Ed.Pt) X => madd_any (tOf q) (Ed.Tp.times (tOf p) (Sg.chalN (bl r ++ bl k0 ++ m)) 256) X)
 have hk10 := hide (fun (p q : Ed.Pt) X => msame_any (Ed.Tp.times_all (tOf_has Ed.Pt.base) s (by rw [← q2256]; exact hs)) (Ed.Tp.add_has (tOf_has q) (Ed.Tp.times_all (tOf_has p) (Sg.chalN (bl r ++ bl k0 ++ m)) (by rw [← q2256]; exact hcl2))) X)
 have HlR := hide (fun X g (F : SP) t => zB_lay (X := X) (g := g) (F := F) (n := r) (t := t))
 have HlK := hide (fun X g (F : SP) t => zB_lay (X := X) (g := g) (F := F) (n := k0) (t := t))
 have HgR := hide (fun k (hk : k < 32) => (bl_get r k hk))
 have HgS := hide (fun k (hk : k < 32) => (bl_get s k hk))
 have HcG1 := hide (fun k x h => gC_1 r s k x h)
 have HcG2 := hide (fun k x h => gC_2 r s k x h)
 have HbR := hide (hL_0 (bl r))
 have HbS := hide (hL_0 (bl s))
 have HeR := hide (hL_32 r)
 have HeS := hide (hL_32 s)
 obtain ⟨PA, bA, edA, sA, oA, zA, cA⟩ := decW_cases k0
 obtain ⟨PR, bR, edR, sR, oR, zR, cR⟩ := decW_cases r
 rw [edA] at hk1
 rw [edR] at hk2
 have HsPA := hide sA
 have HoPA := hide oA
 have HzPA := hide zA
 have HsPR := hide sR
 have HoPR := hide oR
 have HzPR := hide zR
 have HcA := hide cA
 have HcR := hide cR
 have HM := hide h
 obtain ⟨ma, mc, rfl, hmc, hmm, _, _⟩ := h
 unfold maxLen at hmm
 obtain ⟨vb0, hvb⟩ : ∃ b, b = Sg.verB (bl k0) (bl r ++ bl s) m := ⟨_, rfl⟩
 rw [← hvb] at hn1 hn2 hn3 hv1
 have Hn1 := hide hn1
 have Hn2 := hide hn2
 have Hn3 := hide hn3
 have Hv1 := hide hv1
 clear hn1 hn2 hn3 hv1 k3 k6 edA sA oA zA cA edR sR oR zR cR hcl hcl2 hk hr hs hbS f2
 rw [← hvb]
 clear hvb
 obtain ⟨HsKk, HoKk, HzKk⟩ := b3 (zBInfo k0) (zBOne k0) (zBSize 0 k0)
 obtain ⟨HsGg, HoGg, HzGg⟩ := b3 (hInfo r s) (gOne r s) (gSize 0 0 r s)
 obtain ⟨HsRr, HoRr, HzRr⟩ := b3 (zBInfo r) (zBOne r) (zBSize 0 r)
 obtain ⟨HsSs, HoSs, HzSs⟩ := b3 (zBInfo s) (zBOne s) (zBSize 0 s)
 obtain ⟨HsNn, HoNn, HzNn⟩ := b3 (eInfo4 s) (eOne s) (eSize 0 s)
 obtain ⟨HsCc, HoCc, HzCc⟩ := b3 (eInfo4 (Sg.chalN (bl r ++ bl k0 ++ m))) (eOne (Sg.chalN (bl r ++ bl k0 ++ m))) (eSize 0 (Sg.chalN (bl r ++ bl k0 ++ m)))
 obtain ⟨HsDd, HoDd, HzDd⟩ := nF Ed.dN
 generalize zB k0 = Kk at *
 generalize gC r s = Gg at *
 generalize zB r = Rr at *
 generalize zB s = Ss at *
 generalize q4 s = Nn at *
 generalize q4 (Sg.chalN (bl r ++ bl k0 ++ m)) = Cc at *
 generalize n17 Ed.dN = Dd at *
 generalize zB 0 = ZB at *
 generalize gC 0 0 = ZH at *
 generalize q4 0 = Z4 at *
 generalize n17 0 = Zn at *
 generalize mC 0 0 0 = Zm at *
 generalize tpC (Ed.Tp.times (tOf Ed.Pt.base) s 256) = TX at *
 generalize tpC (tOf Ed.Pt.base) = TB at *
 generalize Sg.chalN (bl r ++ bl k0 ++ m) = cN at *
 go_enter Tryd.func34, Tryd.ntmps34
 refine wp_seq_h fun K1 hK1 => ?_
 go_wp2_with fail
 refine hK1.out _ _ ?_
 clear hK1 K1
 generalize (w.alloc (.cells Kk 38)).alloc (.cells Gg 61) = w1 at *
 refine wp_seq_h fun K2 hK2 => ?_
 have h1 := H1.out.alloc (.cells ZB 38)
 have h2 := h1.alloc (.cells ZB 38)
 simp only [World.size_alloc] at h2
 have H2 := hide h2
 have S2 := hide ((S1.out.alloc (.cells ZB 38)).alloc (.cells ZB 38))
 clear h1 h2 H1 S1
 go_wp2_with fail
 refine hK2.out _ _ ?_
 clear hK2 K2
 generalize (w1.alloc (.cells ZB 38)).alloc (.cells ZB 38) = w2 at *
 generalize w1.heap.size = p7 at *
 go_wp2_with fail
 go_loopw [9] (fun i wr => ∃ k : Nat, k ≤ 32 ∧ i = .int .i64 k ∧ (blk (p7 + 1) (.cells (zb (hL (bl s) k)) 38 (0, 0)) * (blk p7 (.cells (zb (hL (bl r) k)) 38 (0, 0)) * (blk (w.heap.size + 1) (.cells Gg 61 (0, 0)) * (blk (w.heap.size) (.cells Kk 38 (0, 0)) * all w)))).on wr ∧ Str w wr) (fun i _ => 32 - (intOf i).toNat)
 case atStart => exact ⟨0, by omega, rfl, by rw [HbR.out, HbS.out]; exact H2.out, S2.out⟩
 case round =>
  obtain ⟨k, hk, rfl, hX, hS2⟩ := hrel
  have HXk := hide hX
  have HSk := hide hS2
  clear hX hS2 H2 S2
  by_cases hlt : k < 32
  ·obtain ⟨x, hx⟩ : ∃ x, (bl r)[k]? = some x := ⟨_, HgR.out k hlt⟩
   obtain ⟨y, hy⟩ : ∃ y, (bl s)[k]? = some y := ⟨_, HgS.out k hlt⟩
   obtain ⟨ox, hox⟩ := hL_get r k k (by omega) hlt
   obtain ⟨oy, hoy⟩ := hL_get s k k (by omega) hlt
   have hcx := (cell_of_row wr (w.heap.size + 1) k _ _ _ (on_blk_mul (SP.on.right (SP.on.right HXk.out)))).trans (HcG1.out k x hx)
   have h0 := HXk.out
   rw [SP.mul_left_comm] at h0
   have hc1 := zbCell h0 k ox hox
   have hfr1 := frozen_of_row wr p7 k _ _ (on_blk_mul h0)
   have h1 := zbSet h0 k x
   rw [hL_step (bl r) k x hx hlt, SP.mul_left_comm] at h1
   have hcy := (cell_of_row _ (w.heap.size + 1) (32 + k) _ _ _ (on_blk_mul (SP.on.right (SP.on.right h1)))).trans (HcG2.out k y hy)
   have hc2 := zbCell h1 k oy hoy
   have hfr2 := frozen_of_row _ (p7 + 1) k _ _ (on_blk_mul h1)
   have h2 := zbSet h1 k y
   rw [hL_step (bl s) k y hy hlt] at h2
   have HN := hide h2
   have hk32 : (k : Int) < 32 := by omega
   have hk64 : (k : Int) < 64 := by omega
   have s1 : IntKind.i64.wrap (32 + (k : Int)) = ((32 + k : Nat) : Int) := by rw [IntWalk.i64_in _ (by omega)]; omega
   have hj64 : ((32 + k : Nat) : Int) < 64 := by omega
   obtain ⟨q, hq⟩ : ∃ q, q = 32 + k := ⟨_, rfl⟩
   rw [← hq] at s1 hj64 hcy
   have s2 : (32 + (k : Int)) = (q : Int) := by omega
   clear h0 h1 h2 hx hy hox hoy hq
   go_wp2_with fail
   exact ⟨⟨k + 1, by omega, by simp, HN.out, (HSk.out.setCell _ _).setCell _ _⟩, by simp [intOf]; omega⟩
  ·obtain rfl : k = 32 := by omega
   rw [HeR.out, HeS.out] at HXk
   clear HbR HbS HeR HeS hk hlt
   have H3 := hide HXk.out
   have S3 := hide HSk.out
   clear HXk HSk
   generalize wr = w3 at *
   have gA := on_blk_mul H3.out.right.right.right
   go_wp2_with (first
    | (refine wL gA hub HsKk ?_))
   clear gA
   refine (hk1.out _).mono ?_
   rintro e w4 ⟨rfl, hB⟩
   obtain ⟨H4, S4⟩ := nx H3.out S3.out hB
   clear hB H3 S3
   obtain ⟨gN, gM, H5, S5⟩ := newV H4.out S4.out Zm PA 31
   have gL0 := on_blk_mul H5.out.right.right
   go_wp2_with (first
    | (refine wS gN HsPA HzPA HoPA ?_)
    | (refine wL gL0 hub HsRr ?_))
   clear gL0
   generalize (w4.alloc (.cells Zm 31)).setRow w4.heap.size PA = w5 at *
   clear gN gM H4 S4
   generalize w4.heap.size = p10 at *
   refine (hk2.out _).mono ?_
   rintro e w6 ⟨rfl, hB⟩
   obtain ⟨H6, S6⟩ := nx H5.out S5.out hB
   clear hB H5 S5
   obtain ⟨gN, gM, H7, S7⟩ := newV H6.out S6.out Zm PR 31
   have sz : ((w6.alloc (.cells Zm 31)).setRow w6.heap.size PR).heap.size = w6.heap.size + 1 := by simp [World.setRow]
   have h9 := H7.out.alloc (.cells Z4 23)
   rw [sz] at h9
   have H8 := hide h9
   have S8 := hide (S7.out.alloc (.cells Z4 23))
   clear h9 sz
   go_wp2_with (first
    | (refine wS gN HsPR HzPR HoPR ?_))
   generalize ((w6.alloc (.cells Zm 31)).setRow w6.heap.size PR).alloc (.cells Z4 23) = w8 at *
   generalize w6.heap.size = p12 at *
   clear gN gM H6 S6 H7 S7
   go_loopw [15] (fun i wr => ∃ k : Nat, k ≤ 32 ∧ i = .int .i64 ((k : Int) - 1) ∧ (blk (p12 + 1) (.cells (lvs (lw (s) k)) 23 (0, 0)) * (blk (p12) (.cells PR 31 (0, 0)) * (blk (p10) (.cells PA 31 (0, 0)) * (blk (p7 + 1) (.cells Ss 38 (0, 0)) * (blk (p7) (.cells Rr 38 (0, 0)) * (blk (w.heap.size + 1) (.cells Gg 61 (0, 0)) * (blk (w.heap.size) (.cells Kk 38 (0, 0)) * all w))))))).on wr ∧ Str w wr) (fun i _ => (intOf i + 1).toNat)
   case atStart => exact ⟨32, by omega, rfl, by rw [H32.out]; exact H8.out, S8.out⟩
   case round =>
    obtain ⟨k, hk, rfl, hX, hS2⟩ := hrel
    have HXk := hide hX
    have HSk := hide hS2
    clear hX hS2 H8 S8
    cases k with
    | zero =>
     rw [Hl0.out] at HXk
     have H20 := hide HXk.out
     have S20 := hide HSk.out
     clear HXk HSk
     generalize wr = w20 at *
     have g0 := on_blk_mul H20.out
     go_wp2_with (first
      | (refine wL g0 hu4 HsNn ?_))
     clear g0
     refine (hk3.out _).mono ?_
     rintro e w21 ⟨rfl, hB⟩
     obtain ⟨H21, S21⟩ := nx H20.out S20.out hB
     clear hB H20 S20
     have HB := hide (all_below H21.out.right.right.right.right.right.right.right S21.out)
     rcases HcA.out with ⟨rfl, pA, hdA, hPA⟩ | ⟨rfl, hdA⟩
     ·have HdA := hide hdA
      have HPA := hide hPA
      clear hdA hPA
      rcases HcR.out with ⟨rfl, pR, hdR, hPR⟩ | ⟨rfl, hdR⟩
      ·have HdR := hide hdR
       have HPR := hide hPR
       clear hdR hPR
       rcases HcS.out with ⟨rfl, hsO⟩ | ⟨rfl, hsO⟩
       ·have hver := Hv1.out pA pR HdA.out HdR.out hsO
        have q8 := fun X => hk8.out pA X
        rw [← HPA.out] at q8
        have q9 := fun X => hk9.out pA pR X
        rw [← HPR.out] at q9
        have hq8 := hide q8
        have hq9 := hide q9
        have hq10 := hide (fun X => hk10.out pA pR X)
        generalize hbb : decide (Ed.Pt.base.mul s = pR.sum (pA.mul cN)) = bb at *
        have Hver := hide hver
        generalize tpC ((tOf pR).add (Ed.Tp.times (tOf pA) cN 256)) = TZ at *
        generalize tpC (Ed.Tp.times (tOf pA) cN 256) = TY at *
        clear hver q8 q9 hsO hbb HB hk8 hk9 hk10
        go_wp2_with fail
        refine (hk4.out _).mono ?_
        rintro e w22 ⟨rfl, hB⟩
        obtain ⟨H22, S22⟩ := nx H21.out S21.out hB
        clear hB H21 S21
        obtain ⟨gN, gM, H23, S23⟩ := newV H22.out S22.out Zn Dd 29
        go_wp2_with (first
         | (refine wS gN HsDd HzDd HoDd ?_))
        generalize (w22.alloc (.cells Zn 29)).setRow w22.heap.size Dd = w23 at *
        clear gN gM H22 S22
        generalize w22.heap.size = p17 at *
        refine wp_tail 6 [isV (.slice (some ⟨p7, 0, .none⟩) 32 32), isV (.slice (some ⟨w.heap.size, 0, .none⟩) 32 32), isV (.slice ma m.length mc), fun v X => IsRows X v [bl r, bl k0, m], isV (.agg Cc), Fresh w23.heap.size (.cells Z4 23 (0, 0))] ?keep ?todo ?r117
        case keep => exact ⟨Keep.isV _, Keep.isV _, Keep.isV _, fun _ _ _ h k => IsRows.below h k, Keep.isV _, Fresh.keep, trivial⟩
        case todo =>
         refine ⟨?_, ?_, ?_, ?_, ?_, ?_, trivial⟩
         ·intro ev X hT hb hk hf
          have e0 : ev (.tmp 7) = .pointer (some ⟨p7, 0, .none⟩) := hk.1
          exact OpOk.r (by simp [execOp, e0, hub, go_sem])
         ·intro ev X hT hb hk hf
          have e0 : ev (.tmp 3) = .pointer (some ⟨w.heap.size, 0, .none⟩) := hk.1
          exact OpOk.r (by simp [execOp, e0, hub, go_sem])
         ·exact fun _ _ _ _ hk hf => OpOk.m rfl hk.1
         ·intro ev X hT hb hk hf
          have e0 : ev (.tmp 74) = _ := hf.1
          have e1 : ev (.tmp 75) = _ := hf.2.1
          have e2 : ev (.tmp 76) = _ := hf.2.2.1
          exact OpOk.run (v := .slice (some ⟨X.heap.size, 0, .none⟩) 3 3) (W' := X.alloc (.cells #[.slice (some ⟨p7, 0, .none⟩) 32 32, .slice (some ⟨w.heap.size, 0, .none⟩) 32 32, .slice ma m.length mc] 56)) (by simp [execOp, e0, e1, e2, run_rr3]) ⟨rows_three (HlR.out X p7 _ _ ((H23.out.below hT).right.right.right.right.right)) (HlK.out X w.heap.size _ _ ((H23.out.below hT).right.right.right.right.right.right.right)) (HM.out.below (all_below (H23.out.below hT).right.right.right.right.right.right.right.right (S23.out.trans (Str.below hT)))) 56, (Below.refl X.heap.size X).alloc (Nat.le_refl _) _⟩
         ·intro ev X hT hb hk hf
          have e0 : IsRows X (ev (.tmp 77)) [bl r, bl k0, m] := hf.1
          have e0 : IsRows X (ev (.tmp 77)) [bl r, bl k0, m] := hf.1
          exact OpOk.c (by simp [execOp, resolve, invoke, hb.1, hb.2.1, go_sem]) (hk6.out _ X e0)
         ·intro ev X hT hb hk hf
          exact OpOk.al hT.size (by simp [execOp, hzL, go_sem])
        intro w24 hX
        rintro _ rfl _ rfl _ rfl _ - _ rfl _ ⟨g18, rfl, hgg18, hcg18⟩
        have H24 := hide (on_fresh H23.out hX hgg18 hcg18)
        have S24 := hide (S23.out.trans (Str.below hX))
        clear hX H23 S23 hgg18 hcg18
        go_wp2
        refine Rest.done ?_
        have H25 := hide (st0 H24.out (cs := Cc))
        have S25 := hide (S24.out.setRow (g18) Cc)
        have gW := on_blk_mul H24.out
        go_wp2_with (first
         | (refine wS gW HsCc HzCc HoCc ?_))
        generalize w24.setRow (g18) Cc = w25 at *
        clear gW H24 S24
        refine wp_tail 12 [isV (.agg TB), isV (.agg Nn), isV (.agg Dd), isV (.agg TX), isV (.agg PR), isV (.agg PA), isV (.agg Cc), isV (.agg Dd), isV (.agg TY), isV (.agg Dd), isV (.agg TZ), isV (.bool bb)] ?keep ?todo ?r118
        case keep => repeat (first | exact trivial | refine ⟨Keep.isV _, ?_⟩)
        case todo =>
         refine ⟨?_, ?_, ?_, ?_, ?_, ?_, ?_, ?_, ?_, ?_, ?_, ?_, trivial⟩
         ·intro ev X hT hb hk hf
          exact OpOk.c (by simp [execOp, resolve, invoke, hb.1, hb.2.1, go_sem]) (hk5.out X)
         ·exact fun ev X hT hb hk hf => OpOk.l (x := .tmp 14) hk.1 (on_blk_mul (H25.out.below hT).right.right) hu4 HsNn.out
         ·exact fun ev X hT hb hk hf => OpOk.l (x := .tmp 17) hk.1 (on_blk_mul (H25.out.below hT).right) hun HsDd.out
         ·intro ev X hT hb hk hf
          have e0 : ev (.tmp 79) = _ := hf.1
          have e1 : ev (.tmp 80) = _ := hf.2.1
          have e2 : ev (.tmp 81) = _ := hf.2.2.1
          exact OpOk.c (by simp [execOp, resolve, invoke, e0, e1, e2, hb.1, hb.2.1, go_sem]) (hk7.out X)
         ·exact fun ev X hT hb hk hf => OpOk.l (x := .tmp 12) hk.1 (on_blk_mul (H25.out.below hT).right.right.right) hum HsPR.out
         ·exact fun ev X hT hb hk hf => OpOk.l (x := .tmp 10) hk.1 (on_blk_mul (H25.out.below hT).right.right.right.right) hum HsPA.out
         ·exact fun ev X hT hb hk hf => OpOk.l (x := .tmp 18) hk.1 (on_blk_mul (H25.out.below hT)) hu4 HsCc.out
         ·exact fun ev X hT hb hk hf => OpOk.l (x := .tmp 17) hk.1 (on_blk_mul (H25.out.below hT).right) hun HsDd.out
         ·intro ev X hT hb hk hf
          have e0 : ev (.tmp 84) = _ := hf.1
          have e1 : ev (.tmp 85) = _ := hf.2.1
          have e2 : ev (.tmp 86) = _ := hf.2.2.1
          exact OpOk.c (by simp [execOp, resolve, invoke, e0, e1, e2, hb.1, hb.2.1, go_sem]) (hq8.out X)
         ·exact fun ev X hT hb hk hf => OpOk.l (x := .tmp 17) hk.1 (on_blk_mul (H25.out.below hT).right) hun HsDd.out
         ·intro ev X hT hb hk hf
          have e0 : ev (.tmp 83) = _ := hf.1
          have e1 : ev (.tmp 87) = _ := hf.2.1
          have e2 : ev (.tmp 88) = _ := hf.2.2.1
          exact OpOk.c (by simp [execOp, resolve, invoke, e0, e1, e2, hb.1, hb.2.1, go_sem]) (hq9.out X)
         ·intro ev X hT hb hk hf
          have e0 : ev (.tmp 82) = _ := hf.1
          have e1 : ev (.tmp 89) = _ := hf.2.1
          exact OpOk.c (by simp [execOp, resolve, invoke, e0, e1, hb.1, hb.2.1, go_sem]) (hq10.out X)
        intro w26 hX
        rintro _ rfl _ rfl _ rfl _ rfl _ rfl _ rfl _ rfl _ rfl _ rfl _ rfl _ rfl _ rfl
        obtain ⟨H26, S26⟩ := nx H25.out S25.out hX
        clear hX H25 S25
        go_wp2
        refine Rest.done ?_
        have HB := hide (all_below H26.out.right.right.right.right.right.right.right.right.right S26.out)
        go_wp2_with fail
        go_ret
        exact ⟨by rw [Hver.out]; rfl, HB.out⟩
       ·have hver := Hn3.out hsO
        clear hsO
        have Hver := hide hver
        clear hver
        go_wp2_with fail
        go_ret
        exact ⟨by rw [Hver.out]; rfl, HB.out⟩
      ·have hver := Hn2.out hdR
       clear hdR
       have Hver := hide hver
       clear hver
       go_wp2_with fail
       go_ret
       exact ⟨by rw [Hver.out]; rfl, HB.out⟩
     ·have hver := Hn1.out hdA
      clear hdA
      have Hver := hide hver
      clear hver
      go_wp2_with fail
      go_ret
      exact ⟨by rw [Hver.out]; rfl, HB.out⟩
    | succ k =>
     have hk32 : k < 32 := by omega
     have s1 : (((k + 1 : Nat) : Int) - 1) = (k : Int) := by omega
     rw [s1]
     clear s1
     have hval := lw_val (s) k hk32
     have hb256 : (s) / 256 ^ k % 256 < 256 := Nat.mod_lt _ (by decide)
     have hll := limb_lt (s) (k / 8)
     have hle : limb (s) (k / 8) / 256 ^ (k % 8) ≤ limb (s) (k / 8) := Nat.div_le_self _ _
     have hstep := lw_step (s) k hk32
     have hget := lvs_get _ _ _ (lw_get (s) (k + 1) (k / 8) (by omega))
     have hgb := Hget.out k hk32
     have hxn : (UInt8.ofNat ((s) / 256 ^ k % 256)).toNat = (s) / 256 ^ k % 256 := by rw [UInt8.toNat_ofNat']; omega
     rw [← hxn] at hval
     have hset := lvs_set (lw (s) (k + 1)) (k / 8) (limb (s) (k / 8) / 256 ^ (k % 8))
     rw [hstep] at hset
     have Hps := hide (show k / 8 < (lvs (lw (s) (k + 1))).size by rw [lvs_size, lw_len]; omega)
     have hq4 : ((k / 8 : Nat) : Int) < 4 := by omega
     have hk32' : (k : Int) < 32 := by omega
     have c1 : IntKind.i64.wrap ((k : Int) / 8) = ((k / 8 : Nat) : Int) := by rw [IntWalk.i64_in _ (by omega)]; omega
     generalize UInt8.ofNat ((s) / 256 ^ k % 256) = x at *
     have hx8 := UInt8.toNat_lt x
     generalize limb (s) (k / 8) / 256 ^ (k % 8) = z at *
     generalize limb (s) (k / 8) / 256 ^ (k + 1 - 8 * (k / 8)) = y at *
     have c5 : IntKind.u64.wrap ((x.toNat : Nat) : Int) = ((x.toNat : Nat) : Int) := wrapS _ (by omega)
     have q6 : IntKind.u64.wrap ((y : Int) * 256) = ((y * 256 : Nat) : Int) := by rw [IntKind.wrap_u64]; omega
     have q7 : IntKind.u64.wrap (((y * 256 : Nat) : Int) + ((x.toNat : Nat) : Int)) = (z : Int) := by rw [IntKind.wrap_u64]; omega
     generalize y * 256 = y2 at *
     have Q6 := hide q6
     have Q7 := hide q7
     have Hcl := hide hget
     have Hgb := hide hgb
     have Hset := hide hset
     have hs8 : (Tryd.prog.info? 22).map (·.size) = some 1 := by kernel_rfl
     clear hset hget q6 q7 hval hb256 hll hle hstep hgb hxn
     generalize lvs (lw (s) (k + 1)) = P1 at *
     generalize hP2 : lvs (lw (s) k) = P2 at *
     have HP2 := hide hP2
     clear hP2
     generalize k / 8 = q at *
     go_wp2_with fail
     refine AppK.wp_region_set 13 [isV (.int .i64 (k : Int)), isV (.int .i64 ((q : Nat) : Int)), isV (.int .i64 (k : Int)), isV (.int .i64 ((q : Nat) : Int)), isV (.pointer (some ⟨p12 + 1, q, .none⟩)), isV (lv y), isV (lv y2), isV (.int .i64 (k : Int)), isV (.pointer (some ⟨p7 + 1, k, .none⟩)), isV (vb x), isV (lv x.toNat), isV (lv z), isV (.pointer (some ⟨p12 + 1, q, .none⟩)), (fun _ _ => True)]
      [isV (.int .i64 (k : Int)), isV (.int .i64 ((q : Nat) : Int)), isV (.int .i64 (k : Int)), isV (.int .i64 ((q : Nat) : Int)), isV (.pointer (some ⟨p12 + 1, q, .none⟩)), isV (lv y), isV (lv y2), isV (.int .i64 (k : Int)), isV (.pointer (some ⟨p7 + 1, k, .none⟩)), isV (vb x), isV (lv x.toNat), isV (lv z), isV (.pointer (some ⟨p12 + 1, q, .none⟩)), (fun _ _ => True)] _ rfl (by kernel_rfl) (by kernel_rfl) rfl (by decide) (.inr rfl) (fun ph X => (blk (p12 + 1) (.cells (if ph = true then P2 else P1) 23 (0, 0)) * (blk (p12) (.cells PR 31 (0, 0)) * (blk (p10) (.cells PA 31 (0, 0)) * (blk (p7 + 1) (.cells Ss 38 (0, 0)) * (blk (p7) (.cells Rr 38 (0, 0)) * (blk (w.heap.size + 1) (.cells Gg 61 (0, 0)) * (blk (w.heap.size) (.cells Kk 38 (0, 0)) * all w))))))).on X ∧ Str w X) ⟨SP.on.drew HXk.out, Str.drew HSk.out⟩ (fun ph a b h st => ⟨h.1.below st, h.2.trans (Str.below st)⟩) ?keep ?keep2 ?store ?todo ?r119
     case keep => exact ⟨Keep.isV _, Keep.isV _, Keep.isV _, Keep.isV _, Keep.isV _, Keep.isV _, Keep.isV _, Keep.isV _, Keep.isV _, Keep.isV _, Keep.isV _, Keep.isV _, Keep.isV _, fun _ _ _ h _ => h, trivial⟩
     case keep2 => exact ⟨Keep.isV _, Keep.isV _, Keep.isV _, Keep.isV _, Keep.isV _, Keep.isV _, Keep.isV _, Keep.isV _, Keep.isV _, Keep.isV _, Keep.isV _, Keep.isV _, Keep.isV _, fun _ _ _ h _ => h, trivial⟩
     case store =>
      intro ev X hT hb hk hf
      have e0 : ev (.tmp 60) = _ := hf.1
      have e1 : ev (.tmp 59) = _ := hf.2.1
      have hX : (blk (p12 + 1) (.cells P1 23 (0, 0)) * (blk (p12) (.cells PR 31 (0, 0)) * (blk (p10) (.cells PA 31 (0, 0)) * (blk (p7 + 1) (.cells Ss 38 (0, 0)) * (blk (p7) (.cells Rr 38 (0, 0)) * (blk (w.heap.size + 1) (.cells Gg 61 (0, 0)) * (blk (w.heap.size) (.cells Kk 38 (0, 0)) * all w))))))).on X := hT.1
      exact OpOk.store_one _ _ _ rfl (p12 + 1) q (lv z) e0 e1 rfl _ P1 hX hs8 Hps.out rfl P2 Hset.out (fun h3 => ⟨⟨h3, hT.2.setRow _ _⟩, trivial, fun i _ hv => vList_free (by
       intro P hP
       simp only [List.mem_cons, List.not_mem_nil, or_false] at hP
       rcases hP with rfl | rfl | rfl | rfl | rfl | rfl | rfl | rfl | rfl | rfl | rfl | rfl | rfl | rfl <;> exact fun _ _ _ h => h) i _ _ _ hv⟩)
     case todo =>
      refine ⟨?_, ?_, ?_, ?_, ?_, ?_, ?_, ?_, ?_, ?_, ?_, ?_, ?_, ?_, trivial⟩
      ·rintro _ ph - h2 ev X hT hb hk hf
       obtain rfl := h2 (by kernel_rfl)
       have e0 : ev (.tmp 15) = .int .i64 (k : Int) := hk.1
       exact OpOk.m rfl e0
      ·rintro _ ph - h2 ev X hT hb hk hf
       obtain rfl := h2 (by kernel_rfl)
       have e0 : ev (.tmp 48) = _ := hf.1
       exact OpOk.r (by simp [execOp, e0, hb.1, c1, go_sem])
      ·rintro _ ph - h2 ev X hT hb hk hf
       obtain rfl := h2 (by kernel_rfl)
       have e0 : ev (.tmp 15) = .int .i64 (k : Int) := hk.1
       exact OpOk.m rfl e0
      ·rintro _ ph - h2 ev X hT hb hk hf
       obtain rfl := h2 (by kernel_rfl)
       have e0 : ev (.tmp 50) = _ := hf.1
       exact OpOk.r (by simp [execOp, e0, hb.1, c1, go_sem])
      ·rintro _ ph - h2 ev X hT hb hk hf
       obtain rfl := h2 (by kernel_rfl)
       have e0 : ev (.tmp 14) = .pointer (some ⟨p12 + 1, 0, .none⟩) := hk.1
       have e1 : ev (.tmp 51) = _ := hf.1
       exact OpOk.r (by simp [execOp, e0, e1, hb.1, hq4, go_sem]; try (intro h; omega))
      ·rintro _ ph - h2 ev X hT hb hk hf
       obtain rfl := h2 (by kernel_rfl)
       have e0 : ev (.tmp 52) = _ := hf.1
       have cW := (cell_of_row X (p12 + 1) q _ _ _ (on_blk_mul hT.1)).trans Hcl.out
       exact OpOk.r (by simp [execOp, e0, cW, go_sem])
      ·rintro _ ph - h2 ev X hT hb hk hf
       obtain rfl := h2 (by kernel_rfl)
       have e0 : ev (.tmp 53) = _ := hf.1
       exact OpOk.r (by have h9 := Q6.out; simp [execOp, e0, hb.1, h9, go_sem])
      ·rintro _ ph - h2 ev X hT hb hk hf
       obtain rfl := h2 (by kernel_rfl)
       have e0 : ev (.tmp 15) = .int .i64 (k : Int) := hk.1
       exact OpOk.m rfl e0
      ·rintro _ ph - h2 ev X hT hb hk hf
       obtain rfl := h2 (by kernel_rfl)
       have e0 : ev (.tmp 8) = .pointer (some ⟨p7 + 1, 0, .none⟩) := hk.1
       have e1 : ev (.tmp 55) = _ := hf.1
       exact OpOk.r (by simp [execOp, e0, e1, hb.1, hk32', go_sem]; try (intro h; omega))
      ·rintro _ ph - h2 ev X hT hb hk hf
       obtain rfl := h2 (by kernel_rfl)
       have e0 : ev (.tmp 56) = _ := hf.1
       have cW := (cell_of_row X (p7 + 1) k _ _ _ (on_blk_mul (SP.on.right (SP.on.right (SP.on.right hT.1))))).trans Hgb.out
       exact OpOk.r (by simp [execOp, e0, cW, go_sem])
      ·rintro _ ph - h2 ev X hT hb hk hf
       obtain rfl := h2 (by kernel_rfl)
       have e0 : ev (.tmp 57) = _ := hf.1
       exact OpOk.r (by simp [execOp, e0, hb.1, hu6, hu8, c5, go_sem])
      ·rintro _ ph - h2 ev X hT hb hk hf
       obtain rfl := h2 (by kernel_rfl)
       have e0 : ev (.tmp 54) = _ := hf.1
       have e1 : ev (.tmp 58) = _ := hf.2.1
       exact OpOk.r (by have h9 := Q7.out; simp [execOp, e0, e1, h9, go_sem])
      ·rintro _ ph - h2 ev X hT hb hk hf
       obtain rfl := h2 (by kernel_rfl)
       have e0 : ev (.tmp 14) = .pointer (some ⟨p12 + 1, 0, .none⟩) := hk.1
       have e1 : ev (.tmp 49) = _ := hf.1
       exact OpOk.r (by simp [execOp, e0, e1, hb.1, hq4, go_sem]; try (intro h; omega))
      ·exact fun h => absurd rfl h
     intro X hT
     rintro _ - _ - _ - _ - _ - _ - _ - _ - _ - _ - _ - _ - _ - _ -
     have hX2 : (blk (p12 + 1) (.cells P2 23 (0, 0)) * (blk (p12) (.cells PR 31 (0, 0)) * (blk (p10) (.cells PA 31 (0, 0)) * (blk (p7 + 1) (.cells Ss 38 (0, 0)) * (blk (p7) (.cells Rr 38 (0, 0)) * (blk (w.heap.size + 1) (.cells Gg 61 (0, 0)) * (blk (w.heap.size) (.cells Kk 38 (0, 0)) * all w))))))).on X := hT.1
     have HX2 := hide hX2
     have HST := hide hT.2
     clear hT hX2
     go_wp2
     refine Rest.done ?_
     go_wp2_with fail
     refine ⟨⟨k, by omega, rfl, by rw [HP2.out]; exact HX2.out, HST.out⟩, by simp [intOf]⟩
end Cv
end Go.Proofs.YtbplbdnofobbiaaDoor
