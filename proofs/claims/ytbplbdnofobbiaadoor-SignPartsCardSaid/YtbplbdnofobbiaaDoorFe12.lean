/- the document's numbers: of bytes; their bytes. -/
import Derived.Test.YtbplbdnofobbiaaDoorFe11
import Derived.Test.YtbplbdnofobbiaaDoorGBase
set_option linter.unusedVariables false
set_option linter.unusedSimpArgs false
set_option maxRecDepth 100000
set_option maxHeartbeats 8000000
namespace Go.Proofs.YtbplbdnofobbiaaDoor
namespace Fe
open Go.ChangeShapes Go.WideShapes Go.ChangeAt Go.RowKit
theorem bInfo (l : List UInt8) (h : l.length = 32) : (Tryd.prog.info? 38).map (·.size) = some (zb l).size := by rw [show (zb l).size = 32 by simp [zb, vbs, h]]; kernel_rfl
theorem bSize (l m : List UInt8) (hl : l.length = 32) (hm : m.length = 32) : (zb l).size = (zb m).size := by simp [zb, vbs, hl, hm]
theorem bOne (l : List UInt8) : (zb l).all (·.oneCell') = true := vba _
theorem bZero (w : World) : (zeroValue 38).run Tryd.prog w = .ok (.agg (zb (List.replicate 32 0))) w := by kernel_rfl
theorem byte_bit (l : List UInt8) (k : Nat) (h : k / 8 < l.length) : (((((l.getD (k / 8) 0).toNat : Nat) : Int) / 2 ^ (k % 8)).tmod 2 == 1) = (leN l).testBit k := by
 have hbit : ((l.getD (k / 8) 0).toNat : Int) / 2 ^ (k % 8) = (((l.getD (k / 8) 0).toNat / 2 ^ (k % 8) : Nat) : Int) := by rw [Int.natCast_ediv, Int.natCast_pow]; rfl
 have hb := leN_bit l k (by omega)
 unfold bitAt at hb
 rw [hbit, Int.tmod_eq_emod_of_nonneg (Int.natCast_nonneg _), Nat.testBit_eq_decide_div_mod_eq, hb, Bool.eq_iff_iff, beq_iff_eq, decide_eq_true_eq]
 omega
theorem dg_bit (n k : Nat) : ((((dg n (k / 15) : Nat) : Int) / 2 ^ (k % 15)).tmod 2 == 1) = n.testBit k := by
 have hbit : ((dg n (k / 15) : Nat) : Int) / 2 ^ (k % 15) = ((dg n (k / 15) / 2 ^ (k % 15) : Nat) : Int) := by rw [Int.natCast_ediv, Int.natCast_pow]; rfl
 have h1 : (dg n (k / 15)).testBit (k % 15) = n.testBit k := by
  rw [dg_pow, Nat.testBit_mod_two_pow, Nat.testBit_div_two_pow]
  have : k % 15 < 15 := Nat.mod_lt _ (by decide)
  simp only [this, decide_true, Bool.true_and]
  congr 1; omega
 rw [hbit, Int.tmod_eq_emod_of_nonneg (Int.natCast_nonneg _), ← h1, Nat.testBit_eq_decide_div_mod_eq, Bool.eq_iff_iff, beq_iff_eq, decide_eq_true_eq]
 omega
theorem dg_lt_bit (n k : Nat) : dg (n % 2 ^ k) (k / 15) + 2 ^ (k % 15) < 65536 := by
 have h1 := dg_lt (n % 2 ^ k) (k / 15)
 have h2 : (2 : Nat) ^ (k % 15) ≤ 2 ^ 14 := Nat.pow_le_pow_right (by decide) (by omega)
 omega
theorem bl_lt_bit (n k : Nat) : n % 2 ^ k / 256 ^ (k / 8) % 256 + 2 ^ (k % 8) < 256 := by
 have h := bit_dig 8 (n % 2 ^ k) k (k / 8) (by decide) (Nat.mod_lt _ (Nat.pow_pos (by decide)))
 rw [if_pos rfl, Nat.pow_mul, show (2 : Nat) ^ 8 = 256 from rfl] at h
 rw [← h]
 exact Nat.mod_lt _ (by decide)
theorem zb_set (l : List UInt8) (k : Nat) (x : UInt8) : (zb l).setIfInBounds k (vb x) = zb (l.set k x) := by
 unfold zb; rw [List.setIfInBounds_toArray, ← vbs_set]
theorem zb_get (l : List UInt8) (k : Nat) (x : UInt8) (h : l[k]? = some x) : (zb l)[k]? = some (vb x) := by
 obtain ⟨hk, rfl⟩ := List.getElem?_eq_some_iff.1 h
 unfold zb; rw [List.getElem?_toArray]; exact vbs_get _ k hk
theorem bl_0 : bl 0 = List.replicate 32 0 := by decide
theorem p255 : 18446744073709551616 ^ 4 = 2 * 2 ^ 255 := by decide +kernel
theorem frombytes_any (l : List UInt8) (hl : l.length = 32) (w : World) :
  Calls Tryd.prog 54 #[.agg (zb l)] w fun e w' => e = .returned (.tuple #[.agg (n17 (leN l % 2 ^ 255)), .bool (decide (2 ^ 255 ≤ leN l))]) ∧ Below w.heap.size w w' := by
 have hun := Tryd.underlying29
 have hub := Tryd.underlying38
 have hzn := nZero
 have h0 := (((on_all w).alloc (.cells (zb l) 38)).alloc (.cells (n17 0) 29)).alloc (.cells (n17 0) 29)
 have s0 := (((Str.refl w).alloc (.cells (zb l) 38)).alloc (.cells (n17 0) 29)).alloc (.cells (n17 0) 29)
 simp only [World.size_alloc] at h0
 have H1 := hide h0
 have S1 := hide s0
 clear h0 s0
 obtain ⟨HsRn, HoRn, HzRn⟩ := nF (leN l % 2 ^ 255)
 have Hbit := hide (fun k (h : k < 256) => byte_bit l k (by omega))
 have Hget := hide (fun k (h : k < 32) => zb_get l k (l.getD k 0) (by rw [List.getD_eq_getElem?_getD, List.getElem?_eq_getElem (show k < l.length by omega)]; rfl))
 have hlt := leN_lt l
 rw [hl, B256, p255] at hlt
 have Hhigh := hide (show decide ((128 : Int) ≤ (((l.getD 31 0).toNat : Nat) : Int)) = decide (2 ^ 255 ≤ leN l) by
  have h1 := leN_at l 31 (by omega)
  have h2 : leN l / 256 ^ 31 < 256 := by
   rw [Nat.div_lt_iff_lt_mul (by decide)]
   have : 256 * 256 ^ 31 = 2 * 2 ^ 255 := by decide +kernel
   omega
  rw [Nat.mod_eq_of_lt h2] at h1
  have h3 : (2 : Nat) ^ 255 = 128 * 256 ^ 31 := by decide +kernel
  have h4 : 128 ≤ (l.getD 31 0).toNat ↔ 128 * 256 ^ 31 ≤ leN l := by rw [← h1]; exact Nat.le_div_iff_mul_le (by decide)
  rw [← h3] at h4
  exact decide_eq_decide.2 (by rw [← h4]; omega))
 have Hget31 := hide (Hget.out 31 (by decide))
 have Hl := hide hl
 clear hlt hl
 generalize l.getD 31 0 = lx at *
 generalize hA : zb l = An at *
 generalize hZn : n17 0 = Zn at *
 generalize hR : n17 (leN l % 2 ^ 255) = Rn at *
 have HZn := hide hZn
 have HR := hide hR
 clear hA hZn hR
 go_enter Tryd.func54, Tryd.ntmps54
 go_wp2_with fail
 generalize ((w.alloc (.cells An 38)).alloc (.cells Zn 29)).alloc (.cells Zn 29) = w1 at *
 go_loopw [5] (fun i wr => ∃ k : Nat, k ≤ 255 ∧ i = .int .i64 k ∧ (blk (w.heap.size + 1 + 1) (.cells (n17 (leN l % 2 ^ k)) 29 (0, 0)) * (blk (w.heap.size + 1) (.cells Zn 29 (0, 0)) * (blk w.heap.size (.cells An 38 (0, 0)) * all w))).on wr ∧ Str w wr) (fun i _ => 255 - (intOf i).toNat)
 case atStart => exact ⟨0, by omega, rfl, by rw [Nat.pow_zero, Nat.mod_one, HZn.out]; exact H1.out, S1.out⟩
 case round =>
  obtain ⟨k, hk, rfl, hX, hS2⟩ := hrel
  have HXk := hide hX
  have HSk := hide hS2
  clear hX hS2 H1 S1
  by_cases hlt : k < 255
  ·have hdb := ds_bit (leN l) k
   have hb := Hbit.out k (by omega)
   have hcell := (cell_of_row wr w.heap.size (k / 8) _ _ _ (on_blk_mul HXk.out.right.right)).trans (Hget.out (k / 8) (by omega))
   have c1 : IntKind.i64.wrap ((k : Int) / 8) = ((k / 8 : Nat) : Int) := by rw [IntWalk.i64_in _ (by omega)]; omega
   have c2 : ((k : Int)).tmod 8 = ((k % 8 : Nat) : Int) := by rw [Int.tmod_eq_emod_of_nonneg (by omega)]; omega
   have hk32 : ((k / 8 : Nat) : Int) < 32 := by omega
   have hk255 : (k : Int) < 255 := by omega
   have hm8 : k % 8 < 8 := by omega
   generalize l.getD (k / 8) 0 = bx at *
   by_cases ht : (leN l).testBit k = true
   ·rw [ht] at hb
    rw [if_pos ht] at hdb
    have hlb := dg_lt_bit (leN l) k
    obtain ⟨p, hp⟩ : ∃ p : Nat, p = 2 ^ (k % 15) := ⟨_, rfl⟩
    have hget := ds_get 17 (leN l % 2 ^ k) (k / 15) (by omega)
    have hqk : k / 15 < 17 := by omega
    have hset := dvs_set (ds 17 (leN l % 2 ^ k)) (k / 15) (dg (leN l % 2 ^ k) (k / 15) + 2 ^ (k % 15))
    rw [← hdb, ← hp] at hset
    rw [← hp] at hlb
    have q6 : IntKind.i64.wrap (2 ^ (k % 15)) = (p : Int) := by rw [show (2 : Int) ^ (k % 15) = (p : Int) by rw [hp, Int.natCast_pow]; rfl, IntWalk.i64_in _ (by omega)]
    have d1 : IntKind.i64.wrap ((k : Int) / 15) = ((k / 15 : Nat) : Int) := by rw [IntWalk.i64_in _ (by omega)]; omega
    have d2 : ((k : Int)).tmod 15 = ((k % 15 : Nat) : Int) := by rw [Int.tmod_eq_emod_of_nonneg (by omega)]; omega
    have q7 : IntKind.i64.wrap (((dg (leN l % 2 ^ k) (k / 15) : Nat) : Int) + (p : Int)) = ((dg (leN l % 2 ^ k) (k / 15) + p : Nat) : Int) := by rw [IntWalk.i64_in _ (by omega)]; omega
    have hq15 : ((k / 15 : Nat) : Int) < 17 := by omega
    have hr15 : k % 15 < 15 := by omega
    have Hcl := hide (dvs_get _ _ _ hget)
    have Hset := hide hset
    have Hps := hide (show k / 15 < (n17 (leN l % 2 ^ k)).size by rw [n17_size]; omega)
    have Q6 := hide q6
    have Q7 := hide q7
    have hs8 : (Tryd.prog.info? 3).map (·.size) = some 1 := by kernel_rfl
    clear hset hget q6 q7 hdb hlb ht hqk hp
    have Hcl : Hid ((n17 (leN l % 2 ^ k))[k / 15]? = some (nv (dg (leN l % 2 ^ k) (k / 15)))) := Hcl
    have Hset : Hid ((n17 (leN l % 2 ^ k)).setIfInBounds (k / 15) (nv (dg (leN l % 2 ^ k) (k / 15) + p)) = n17 (leN l % 2 ^ (k + 1))) := Hset
    generalize dg (leN l % 2 ^ k) (k / 15) = d at *
    generalize hz : d + p = z at *
    generalize n17 (leN l % 2 ^ k) = P1 at *
    generalize hP2 : n17 (leN l % 2 ^ (k + 1)) = P2 at *
    have HP2 := hide hP2
    clear hP2 hz
    generalize hq : k / 15 = q at *
    generalize hm : k % 15 = m at *
    clear hq hm
    go_wp2_with fail
    refine AppK.wp_region_set 9 [isV (.int .i64 (k : Int)), isV (.int .i64 ((q : Nat) : Int)), isV (.pointer (some ⟨w.heap.size + 1 + 1, q, .none⟩)), isV (nv d), isV (.int .i64 (k : Int)), isV (.int .i64 ((m : Nat) : Int)), isV (nv p), isV (nv z), isV (.pointer (some ⟨w.heap.size + 1 + 1, q, .none⟩)), (fun _ _ => True)]
     [isV (.int .i64 (k : Int)), isV (.int .i64 ((q : Nat) : Int)), isV (.pointer (some ⟨w.heap.size + 1 + 1, q, .none⟩)), isV (nv d), isV (.int .i64 (k : Int)), isV (.int .i64 ((m : Nat) : Int)), isV (nv p), isV (nv z), isV (.pointer (some ⟨w.heap.size + 1 + 1, q, .none⟩)), (fun _ _ => True)] _ rfl (by kernel_rfl) (by kernel_rfl) rfl (by decide) (.inr rfl) (fun ph X => (blk (w.heap.size + 1 + 1) (.cells (if ph = true then P2 else P1) 29 (0, 0)) * (blk (w.heap.size + 1) (.cells Zn 29 (0, 0)) * (blk w.heap.size (.cells An 38 (0, 0)) * all w))).on X ∧ Str w X) ⟨SP.on.drew HXk.out, Str.drew HSk.out⟩ (fun ph a b h st => ⟨h.1.below st, h.2.trans (Str.below st)⟩) ?keep ?keep2 ?store ?todo ?r53
    case keep => exact ⟨Keep.isV _, Keep.isV _, Keep.isV _, Keep.isV _, Keep.isV _, Keep.isV _, Keep.isV _, Keep.isV _, Keep.isV _, fun _ _ _ h _ => h, trivial⟩
    case keep2 => exact ⟨Keep.isV _, Keep.isV _, Keep.isV _, Keep.isV _, Keep.isV _, Keep.isV _, Keep.isV _, Keep.isV _, Keep.isV _, fun _ _ _ h _ => h, trivial⟩
    case store =>
     intro ev X hT hb hk hf
     have e0 : ev (.tmp 27) = _ := hf.1
     have e1 : ev (.tmp 26) = _ := hf.2.1
     have hX : (blk (w.heap.size + 1 + 1) (.cells P1 29 (0, 0)) * (blk (w.heap.size + 1) (.cells Zn 29 (0, 0)) * (blk w.heap.size (.cells An 38 (0, 0)) * all w))).on X := hT.1
     exact OpOk.store_one _ _ _ rfl (w.heap.size + 1 + 1) q (nv z) e0 e1 rfl _ P1 hX hs8 Hps.out rfl P2 Hset.out (fun h3 => ⟨⟨h3, hT.2.setRow _ _⟩, trivial, fun i _ hv => vList_free (by
      intro P hP
      simp only [List.mem_cons, List.not_mem_nil, or_false] at hP
      rcases hP with rfl | rfl | rfl | rfl | rfl | rfl | rfl | rfl | rfl | rfl <;> exact fun _ _ _ h => h) i _ _ _ hv⟩)
    case todo =>
     refine ⟨?_, ?_, ?_, ?_, ?_, ?_, ?_, ?_, ?_, ?_, trivial⟩
     ·rintro _ ph - h2 ev X hT hb hk hf
      obtain rfl := h2 (by kernel_rfl)
      have e0 : ev (.tmp 5) = .int .i64 (k : Int) := hk.1
      exact OpOk.m rfl e0
     ·rintro _ ph - h2 ev X hT hb hk hf
      obtain rfl := h2 (by kernel_rfl)
      have e0 : ev (.tmp 19) = _ := hf.1
      exact OpOk.r (by simp [execOp, e0, hb.1, d1, go_sem])
     ·rintro _ ph - h2 ev X hT hb hk hf
      obtain rfl := h2 (by kernel_rfl)
      have e0 : ev (.tmp 4) = .pointer (some ⟨w.heap.size + 1 + 1, 0, .none⟩) := hk.1
      have e1 : ev (.tmp 20) = _ := hf.1
      exact OpOk.r (by simp [execOp, e0, e1, hb.1, hq15, go_sem]; try (intro h; omega))
     ·rintro _ ph - h2 ev X hT hb hk hf
      obtain rfl := h2 (by kernel_rfl)
      have e0 : ev (.tmp 21) = _ := hf.1
      have cW := (cell_of_row X (w.heap.size + 1 + 1) q _ _ _ (on_blk_mul hT.1)).trans Hcl.out
      exact OpOk.r (by simp [execOp, e0, cW, go_sem])
     ·rintro _ ph - h2 ev X hT hb hk hf
      obtain rfl := h2 (by kernel_rfl)
      have e0 : ev (.tmp 5) = .int .i64 (k : Int) := hk.1
      exact OpOk.m rfl e0
     ·rintro _ ph - h2 ev X hT hb hk hf
      obtain rfl := h2 (by kernel_rfl)
      have e0 : ev (.tmp 23) = _ := hf.1
      exact OpOk.r (by simp [execOp, e0, hb.1, d2, go_sem])
     ·rintro _ ph - h2 ev X hT hb hk hf
      obtain rfl := h2 (by kernel_rfl)
      have e0 : ev (.tmp 24) = _ := hf.1
      exact OpOk.r (by have h9 := Q6.out; simp [execOp, e0, hb.1, h9, go_sem])
     ·rintro _ ph - h2 ev X hT hb hk hf
      obtain rfl := h2 (by kernel_rfl)
      have e0 : ev (.tmp 22) = _ := hf.1
      have e1 : ev (.tmp 25) = _ := hf.2.1
      exact OpOk.r (by have h9 := Q7.out; simp [execOp, e0, e1, h9, go_sem])
     ·rintro _ ph - h2 ev X hT hb hk hf
      obtain rfl := h2 (by kernel_rfl)
      have e0 : ev (.tmp 4) = .pointer (some ⟨w.heap.size + 1 + 1, 0, .none⟩) := hk.1
      have e1 : ev (.tmp 20) = _ := hf.1
      exact OpOk.r (by simp [execOp, e0, e1, hb.1, hq15, go_sem]; try (intro h; omega))
     ·exact fun h => absurd rfl h
    intro X hT
    rintro _ - _ - _ - _ - _ - _ - _ - _ - _ - _ -
    have hX2 : (blk (w.heap.size + 1 + 1) (.cells P2 29 (0, 0)) * (blk (w.heap.size + 1) (.cells Zn 29 (0, 0)) * (blk w.heap.size (.cells An 38 (0, 0)) * all w))).on X := hT.1
    have HX2 := hide hX2
    have HST := hide hT.2
    clear hT hX2
    go_wp2
    refine Rest.done ?_
    go_wp2_with fail
    refine ⟨⟨k + 1, by omega, by simp, by rw [HP2.out]; exact HX2.out, HST.out⟩, by simp [intOf]; omega⟩
   ·have hf : (leN l).testBit k = false := by simpa using ht
    rw [hf] at hb
    rw [if_neg ht] at hdb
    have HN := hide (show n17 (leN l % 2 ^ (k + 1)) = n17 (leN l % 2 ^ k) from congrArg dvs hdb)
    clear hdb ht hf
    go_wp2_with fail
    exact ⟨⟨k + 1, by omega, by simp, by rw [HN.out]; exact HXk.out, HSk.out⟩, by simp [intOf]; omega⟩
  ·obtain rfl : k = 255 := by omega
   rw [HR.out] at HXk
   have H2 := HXk
   have S2 := HSk
   clear HXk HSk
   have Hc31 : Hid (∀ X, (blk w.heap.size (.cells An 38 (0, 0)) * all w).on X → X.cell? ⟨w.heap.size, 31, .none⟩ = some (vb lx)) := hide fun X hX => (cell_of_row X w.heap.size 31 _ _ _ (on_blk_mul hX)).trans Hget31.out
   have Hlx := hide (show decide ((128 : Int) ≤ ((lx.toNat : Nat) : Int)) = decide (2 ^ 255 ≤ leN l) from Hhigh.out)
   generalize hdd : decide (2 ^ 255 ≤ leN l) = dd at *
   have Hdd := hide hdd
   clear hdd Hhigh
   go_wp2_with fail
   refine AppK.wp_region_set 4 [isV (.agg Rn), isV (.pointer (some ⟨w.heap.size, 31, .none⟩)), isV (vb lx), isV (.bool dd), (fun _ _ => True), isV (.bool dd)]
    [isV (.agg Rn), isV (.pointer (some ⟨w.heap.size, 31, .none⟩)), isV (vb lx), isV (.bool dd), (fun _ _ => True), isV (.bool dd)] _ rfl (by kernel_rfl) (by kernel_rfl) rfl (by decide) (.inr rfl) (fun ph X => (blk (w.heap.size + 1 + 1) (.cells Rn 29 (0, 0)) * (blk (w.heap.size + 1) (.cells (if ph = true then Rn else Zn) 29 (0, 0)) * (blk w.heap.size (.cells An 38 (0, 0)) * all w))).on X ∧ Str w X) ⟨SP.on.drew H2.out, Str.drew S2.out⟩ (fun ph a b h st => ⟨h.1.below st, h.2.trans (Str.below st)⟩) ?keep ?keep2 ?store ?todo ?r54
   case keep => exact ⟨Keep.isV _, Keep.isV _, Keep.isV _, Keep.isV _, fun _ _ _ h _ => h, Keep.isV _, trivial⟩
   case keep2 => exact ⟨Keep.isV _, Keep.isV _, Keep.isV _, Keep.isV _, fun _ _ _ h _ => h, Keep.isV _, trivial⟩
   case store =>
    intro ev X hT hb hk hf
    have e0 : ev (.tmp 2) = .pointer (some ⟨w.heap.size + 1, 0, .none⟩) := hk.1
    have e1 : ev (.tmp 28) = _ := hf.1
    have hX : (blk (w.heap.size + 1 + 1) (.cells Rn 29 (0, 0)) * (blk (w.heap.size + 1) (.cells Zn 29 (0, 0)) * (blk w.heap.size (.cells An 38 (0, 0)) * all w))).on X := hT.1
    rw [SP.mul_left_comm] at hX
    exact OpOk.store_agg _ _ _ rfl (w.heap.size + 1) Rn e0 e1 _ Zn hX HsRn.out HzRn.out HoRn.out (fun h3 => ⟨⟨by rw [SP.mul_left_comm] at h3; exact h3, hT.2.setRow _ _⟩, trivial, fun i _ hv => vList_free (by
     intro P hP
     simp only [List.mem_cons, List.not_mem_nil, or_false] at hP
     rcases hP with rfl | rfl | rfl | rfl | rfl | rfl <;> exact fun _ _ _ h => h) i _ _ _ hv⟩)
   case todo =>
    refine ⟨?_, ?_, ?_, ?_, ?_, ?_, trivial⟩
    ·rintro _ ph - h2 ev X hT hb hk hf
     obtain rfl := h2 (by kernel_rfl)
     have e0 : ev (.tmp 4) = .pointer (some ⟨w.heap.size + 1 + 1, 0, .none⟩) := hk.1
     exact OpOk.l e0 (on_blk_mul hT.1) hun HsRn.out
    ·intro _ ph h1 h2
     cases ph
     all_goals
      intro ev X hT hb hk hf
      have e0 : ev (.tmp 1) = .pointer (some ⟨w.heap.size, 0, .none⟩) := hk.1
      exact OpOk.r (by simp [execOp, e0, hb.1, go_sem])
    ·intro _ ph h1 h2
     cases ph
     all_goals
      intro ev X hT hb hk hf
      have e0 : ev (.tmp 29) = _ := hf.1
      have cW := Hc31.out X hT.1.right.right
      exact OpOk.r (by simp [execOp, e0, cW, go_sem])
    ·intro _ ph h1 h2
     cases ph
     all_goals
      intro ev X hT hb hk hf
      have e0 : ev (.tmp 30) = _ := hf.1
      exact OpOk.r (by have h9 := Hlx.out; simp [execOp, e0, hb.1, h9, go_sem])
    ·exact fun h => absurd rfl h
    ·intro _ ph h1 h2
     obtain rfl : ph = true := h1 (by kernel_rfl)
     intro ev X hT hb hk hf
     have e0 : ev (.tmp 31) = _ := hf.1
     exact OpOk.assign rfl e0 ⟨rfl, Stay.refl _⟩
   intro X hT
   rintro _ - _ - _ - _ - _ - _ rfl
   have hX2 : (blk (w.heap.size + 1 + 1) (.cells Rn 29 (0, 0)) * (blk (w.heap.size + 1) (.cells Rn 29 (0, 0)) * (blk w.heap.size (.cells An 38 (0, 0)) * all w))).on X := hT.1
   have gR := on_blk_mul hX2.right
   have HB := hide (all_below hX2.right.right.right hT.2)
   clear hT hX2
   go_wp2
   refine Rest.done ?_
   go_wp2_with fail
   exact bodyPost_ret (v := .tuple #[.agg Rn, .bool dd]) (results_cell_row_tmp Tryd.results54 _ _ (w.heap.size + 1) _ Rn (0, 0) _ rfl gR hun rfl HsRn.out (.bool dd) rfl) rfl ⟨by rw [Hdd.out], HB.out⟩
end Fe
end Go.Proofs.YtbplbdnofobbiaaDoor
