/- curve: a point's bytes; which bytes are a point's. -/
import Derived.Test.YtbplbdnofobbiaaDoorCv9
namespace Go.Proofs.YtbplbdnofobbiaaDoor
namespace Cv
open Fe
open Go.ChangeShapes Go.WideShapes Go.ChangeAt Go.RowKit
set_option linter.unusedVariables false
set_option linter.unusedSimpArgs false

def zB (n : Nat) : Array Value := zb (bl n)
theorem zBInfo (n : Nat) : (Tryd.prog.info? 38).map (·.size) = some (zB n).size := bInfo _ (bl_len n)
theorem zBOne (n : Nat) : (zB n).all (·.oneCell') = true := bOne _
theorem zBSize (m n : Nat) : (zB m).size = (zB n).size := bSize _ _ (bl_len m) (bl_len n)
theorem zBZero (w : World) : (zeroValue 38).run Tryd.prog w = .ok (.agg (zB 0)) w := by unfold zB; rw [bl_0]; exact bZero w
/-- the last byte -/
def tB (n : Nat) : Nat := n / 256 ^ 31
theorem P31 : 2 ^ 255 = 128 * 256 ^ 31 := by decide +kernel
theorem P32 : 256 ^ 32 = 256 * 256 ^ 31 := by decide +kernel
theorem P31_pos : 0 < 256 ^ 31 := by decide +kernel
theorem tB_lt (n : Nat) (h : n < 256 ^ 32) : tB n < 256 := by
  have h1 := P32
  have h2 := P31_pos
  unfold tB
  generalize 256 ^ 31 = K at *
  generalize 256 ^ 32 = M at *
  rw [Nat.div_lt_iff_lt_mul h2]; omega
theorem tB_half (y : Nat) (h : y < 2 ^ 255) : tB y < 128 := by
  have h1 := P31
  have h2 := P31_pos
  unfold tB
  generalize 256 ^ 31 = K at *
  generalize 2 ^ 255 = M at *
  rw [Nat.div_lt_iff_lt_mul h2]; omega
theorem tB_up (y : Nat) : tB (y + 2 ^ 255) = tB y + 128 := by
  have h1 := P31
  have h2 := P31_pos
  unfold tB
  generalize 256 ^ 31 = K at *
  generalize 2 ^ 255 = M at *
  subst h1
  rw [Nat.add_mul_div_right _ _ h2]
theorem tB_at (n : Nat) (h : n < 256 ^ 32) : (bl n)[31]? = some (UInt8.ofNat (tB n)) := by
  have h1 := tB_lt n h
  rw [bl_get n 31 (by decide)]
  unfold tB at *
  rw [Nat.mod_eq_of_lt h1]
theorem zB_cell (n : Nat) (h : n < 256 ^ 32) : (zB n)[31]? = some (vb (UInt8.ofNat (tB n))) := zb_get _ _ _ (tB_at n h)
theorem bl_up (y : Nat) (h : y < 2 ^ 255) : (bl y).set 31 (UInt8.ofNat (tB y + 128)) = bl (y + 2 ^ 255) := by
  have hb := bl_bit (y + 2 ^ 255) 255
  have h3 : 2 ^ 256 = 2 * 2 ^ 255 := by decide +kernel
  have e1 : (y + 2 ^ 255) % 2 ^ (255 + 1) = y + 2 ^ 255 := Nat.mod_eq_of_lt (by show _ < 2 ^ 256; omega)
  have e2 : (y + 2 ^ 255) % 2 ^ 255 = y := by rw [Nat.add_mod_right, Nat.mod_eq_of_lt h]
  have e3 : (y + 2 ^ 255).testBit 255 = true := by
    rw [Nat.testBit_eq_decide_div_mod_eq, Nat.add_div_right _ (Nat.pow_pos (by decide)), Nat.div_eq_of_lt h]; rfl
  rw [e1, e2, if_pos e3] at hb
  rw [hb]
  have := tB_half y h
  show _ = (bl y).set (255 / 8) (UInt8.ofNat (y / 256 ^ (255 / 8) % 256 + 2 ^ (255 % 8)))
  show _ = (bl y).set 31 (UInt8.ofNat (y / 256 ^ 31 % 256 + 2 ^ 7))
  unfold tB at *
  rw [Nat.mod_eq_of_lt (by omega)]
theorem bl_mask (n : Nat) (h : n < 256 ^ 32) : (bl n).set 31 (UInt8.ofNat (tB n % 128)) = bl (n % 2 ^ 255) := by
  have h5 : 256 ^ 32 = 2 * 2 ^ 255 := by decide +kernel
  by_cases hn : n < 2 ^ 255
  · have h1 := tB_half n hn
    have h2 := tB_at n h
    rw [Nat.mod_eq_of_lt h1, Nat.mod_eq_of_lt hn]
    refine List.ext_getElem? fun j => ?_
    by_cases hj : j = 31
    · subst hj; rw [List.getElem?_set_self (by rw [bl_len]; decide), h2]
    · rw [List.getElem?_set_ne (by omega)]
  · obtain ⟨y, rfl⟩ : ∃ y, n = y + 2 ^ 255 := ⟨n - 2 ^ 255, by omega⟩
    have hy : y < 2 ^ 255 := by omega
    have h1 := tB_half y hy
    have h2 := tB_at y (by omega)
    rw [← bl_up y hy, List.set_set, Nat.add_mod_right, Nat.mod_eq_of_lt hy, tB_up, Nat.add_mod_right, Nat.mod_eq_of_lt h1]
    refine List.ext_getElem? fun j => ?_
    by_cases hj : j = 31
    · subst hj; rw [List.getElem?_set_self (by rw [bl_len]; decide), h2]
    · rw [List.getElem?_set_ne (by omega)]
theorem or128 : ∀ b : Fin 128, bits .or .u8 ((b.val : Nat) : Int) 128 = ((b.val + 128 : Nat) : Int) := by decide +kernel
theorem and127 : ∀ b : Fin 256, bits .and .u8 ((b.val : Nat) : Int) 127 = ((b.val % 128 : Nat) : Int) := by decide +kernel
theorem top7 : ∀ b : Fin 256, (((b.val : Nat) : Int) / 128 == 1) = decide (128 ≤ b.val) := by decide +kernel
theorem fenc_any (y : Nat) (h : y < P5) (w : World) :
    Calls Tryd.prog 48 #[.agg (q4 y)] w fun e w' => e = .returned (.agg (zB y)) ∧ Below w.heap.size w w' := by
  have h1 := encode_any y w
  rw [bl_wbs y (by have := P5_lt; omega)] at h1
  exact h1
set_option maxRecDepth 100000 in
set_option maxHeartbeats 8000000 in
theorem pencode_any (x y : Nat) (p : Ed.Pt) (hp : PtIs x y p) (w : World) :
    Calls Tryd.prog 15 #[.agg (pC x y)] w fun e w' => e = .returned (.agg (zb (Ed.enc p))) ∧ Below w.heap.size w w' := by
  have hx := hp.xl
  have hy := hp.yl
  have hwy := whY_lt x y hp.yl
  have henc : Ed.encN x (whY x y) = Ed.encN p.x.val p.y.val := by rw [hp.ye, ← hp.xe]
  show Calls _ _ _ _ fun e w' => e = .returned (.agg (zB (Ed.encN p.x.val p.y.val))) ∧ Below w.heap.size w w'
  rw [← henc]
  clear henc
  have hup := Tryd.underlying27
  have hu := Tryd.underlying25
  have hub := Tryd.underlying38
  have hzP := pZero
  have hzE := eZero
  have hzB := zBZero
  have h0 := ((on_all w).alloc (.cells (pC x y) 27)).alloc (.cells (zB 0) 38)
  have s0 := ((Str.refl w).alloc (.cells (pC x y) 27)).alloc (.cells (zB 0) 38)
  try simp only [World.size_alloc] at h0
  have H1 := hide h0
  have S1 := hide s0
  clear h0 s0
  have Hw := hide (fun X => whole_any x y hx hy X)
  have Hen := hide (fun X => fenc_any (whY x y) hwy X)
  have Hod := hide (fun X => odd_any x X)
  have hy255 : whY x y < 2 ^ 255 := by have := Ed.P5_255; omega
  have ht := tB_half (whY x y) hy255
  have Hup := hide (bl_up (whY x y) hy255)
  have Hcell := hide (zB_cell (whY x y) (by have : 256 ^ 32 = 2 * 2 ^ 255 := by decide +kernel
                                            omega))
  have Hor := hide (or128 ⟨tB (whY x y), ht⟩)
  have HN1 := hide (fun h : x % 2 = 1 => show Ed.encN x (whY x y) = whY x y + 2 ^ 255 from if_pos h)
  have HN0 := hide (fun h : ¬ x % 2 = 1 => show Ed.encN x (whY x y) = whY x y from if_neg h)
  have HsAp := hide (pInfo x y)
  have HoAp := hide (pC_one x y)
  have HzAp := hide (pSize 0 0 x y)
  have HsAw := hide (pInfo x (whY x y))
  have HoAw := hide (pC_one x (whY x y))
  have HzAw := hide (pSize 0 0 x (whY x y))
  have HpAw_0 := hide (pC_x x (whY x y))
  have HpAw_4 := hide (pC_y x (whY x y))
  have HsX4 := hide (eInfo x)
  have HoX4 := hide (eOne x)
  have HzX4 := hide (eSize 0 x)
  have HsY4 := hide (eInfo (whY x y))
  have HoY4 := hide (eOne (whY x y))
  have HzY4 := hide (eSize 0 (whY x y))
  have HsYb := hide (zBInfo (whY x y))
  have HoYb := hide (zBOne (whY x y))
  have HzYb := hide (zBSize 0 (whY x y))
  have HsRb := hide (zBInfo (Ed.encN x (whY x y)))
  have HoRb := hide (zBOne (Ed.encN x (whY x y)))
  have HzRb := hide (zBSize 0 (Ed.encN x (whY x y)))
  clear hx hy hwy hy255
  generalize hvAp : pC x y = Ap at *
  clear hvAp
  generalize hvAw : pC x (whY x y) = Aw at *
  clear hvAw
  generalize hvX4 : q4 x = X4 at *
  clear hvX4
  generalize hvY4 : q4 (whY x y) = Y4 at *
  clear hvY4
  generalize hvYb : zB (whY x y) = Yb at *
  have HYb := hide hvYb
  clear hvYb
  generalize hvRb : zB (Ed.encN x (whY x y)) = Rb at *
  have HRb := hide hvRb
  clear hvRb
  generalize hvZp : pC 0 0 = Zp at *
  clear hvZp
  generalize hvZ4 : q4 0 = Z4 at *
  clear hvZ4
  generalize hvZB : zB 0 = ZB at *
  clear hvZB
  go_enter Tryd.func15, Tryd.ntmps15
  refine wp_seq_h fun K1 hK1 => ?_
  go_wp2_with fail
  refine hK1.out _ _ ?_
  clear hK1 K1
  generalize (w.alloc (.cells Ap 27)).alloc (.cells ZB 38) = w1 at *
  refine wp_seq_h fun K2 hK2 => ?_
  refine wp_region_seq 2 [isV (.agg Ap), isV (.agg Aw)]
    (by simp only [List.take_succ_cons, List.take_zero]; rfl) (by simp only [List.drop_succ_cons, List.drop_zero]; rfl) (by kernel_rfl) (by kernel_rfl) (by kernel_rfl) (by decide) rfl ?keep ?todo ?rest
  case keep => exact ⟨Keep.isV _, Keep.isV _, trivial⟩
  case todo =>
    refine ⟨?_, ?_, trivial⟩
    · intro ev X hT hb hk hf
      have e0 : ev (.tmp 1) = .pointer (some ⟨w.heap.size, 0, Option.none⟩) := hk.1
      exact OpOk.load_row _ _ rfl _ e0 _ Ap (0, 0) _ (on_blk_mul (H1.out.below hT).right) hup rfl HsAp.out ⟨rfl, Stay.refl _⟩
    · intro ev X hT hb hk hf
      have e0 : ev (.tmp 4) = .agg Ap := hf.1
      refine OpOk.enters (f := 40) (args := #[.agg Ap]) (W' := X) (by simp [execOp, resolve, invoke, e0, hb.1, hb.2.1, go_sem]) ((Hw.out X).mono ?_)
      rintro e _ ⟨rfl, hB⟩
      exact ⟨_, rfl, rfl, hB⟩
  case rest =>
    intro w2 hX
    rintro _ rfl _ rfl
    have H2 := hide (H1.out.below hX)
    have S2 := hide (S1.out.trans (Str.below hX))
    clear hX H1 S1
    go_wp2
    refine Rest.done ?_
    have H3 := hide (st1 H2.out (cs := Aw))
    have S3 := hide (S2.out.setRow (w.heap.size) Aw)
    have gW := on_blk_mul H2.out.right
    go_wp2_with (first
      | (refine wpList_store_row rfl _ _ _ rfl (w.heap.size) Aw rfl rfl _ _ gW HsAw.out (HzAp.out.symm.trans HzAw.out) HoAw.out ?_))
    refine hK2.out _ _ ?_
    clear hK2 K2
    generalize w2.setRow (w.heap.size) Aw = w3 at *
    clear gW H2 S2
    refine wp_seq_h fun K3 hK3 => ?_
    refine wp_region_seq 4 [isV (.pointer (some ⟨w.heap.size, 4, Option.none⟩)), isV (.agg Y4), isV (.agg Yb), Fresh w3.heap.size (.cells ZB 38 (0, 0))]
      (by simp only [List.take_succ_cons, List.take_zero]; rfl) (by simp only [List.drop_succ_cons, List.drop_zero]; rfl) (by kernel_rfl) (by kernel_rfl) (by kernel_rfl) (by decide) rfl ?keep ?todo ?rest
    case keep => exact ⟨Keep.isV _, Keep.isV _, Keep.isV _, Fresh.keep, trivial⟩
    case todo =>
      refine ⟨?_, ?_, ?_, ?_, trivial⟩
      · intro ev X hT hb hk hf
        have e0 : ev (.tmp 1) = .pointer (some ⟨w.heap.size, 0, Option.none⟩) := hk.1
        exact OpOk.run (v := .pointer (some ⟨w.heap.size, 4, Option.none⟩)) (W' := X) (by simp [execOp, e0, go_sem]) ⟨rfl, Stay.refl _⟩
      · intro ev X hT hb hk hf
        have e0 : ev (.tmp 6) = .pointer (some ⟨w.heap.size, 4, Option.none⟩) := hf.1
        exact OpOk.load_part _ _ rfl _ _ e0 Y4 _ (rowPart (on_blk_mul (H3.out.below hT).right) HpAw_4.out) hu rfl HsY4.out ⟨rfl, Stay.refl _⟩
      · intro ev X hT hb hk hf
        have e0 : ev (.tmp 7) = .agg Y4 := hf.1
        refine OpOk.enters (f := 48) (args := #[.agg Y4]) (W' := X) (by simp [execOp, resolve, invoke, e0, hb.1, hb.2.1, go_sem]) ((Hen.out X).mono ?_)
        rintro e _ ⟨rfl, hB⟩
        exact ⟨_, rfl, rfl, hB⟩
      · intro ev X hT hb hk hf
        exact OpOk.run (v := .pointer (some ⟨X.heap.size, 0, Option.none⟩)) (W' := X.alloc (.cells ZB 38)) (by simp [execOp, hzB, go_sem]) ⟨⟨X.heap.size, rfl, hT.size, heap_alloc_new X _⟩, (Below.refl X.heap.size X).alloc (Nat.le_refl _) _⟩
    case rest =>
      intro w4 hX
      rintro _ rfl _ rfl _ rfl _ ⟨g3, rfl, hgg3, hcg3⟩
      have H4 := hide (on_fresh H3.out hX hgg3 hcg3)
      have S4 := hide (S3.out.trans (Str.below hX))
      clear hX H3 S3 hgg3 hcg3
      go_wp2
      refine Rest.done ?_
      have H5 := hide (st0 H4.out (cs := Yb))
      have S5 := hide (S4.out.setRow (g3) Yb)
      have gW := on_blk_mul H4.out
      go_wp2_with (first
        | (refine wpList_store_row rfl _ _ _ rfl (g3) Yb rfl rfl _ _ gW HsYb.out HzYb.out HoYb.out ?_))
      refine hK3.out _ _ ?_
      clear hK3 K3
      generalize w4.setRow (g3) Yb = w5 at *
      clear gW H4 S4
      have gx := rowPart (on_blk_mul H5.out.right.right) HpAw_0.out
      go_wp2_with (first
        | (refine wpList_load_part rfl _ _ rfl (w.heap.size) 0 rfl X4 _ gx hu rfl HsX4.out ?_))
      clear gx
      refine (Hod.out _).mono ?_
      rintro e w6 ⟨rfl, hB⟩
      have H6 := hide (H5.out.below hB)
      have S6 := hide (S5.out.trans (Str.below hB))
      clear hB H5 S5
      by_cases hb : x % 2 = 1
      · rw [decide_eq_true hb]
        have HN := hide (HN1.out hb)
        clear hb
        have hcell := (cell_of_row w6 g3 31 Yb _ _ (on_blk_mul H6.out)).trans Hcell.out
        have hfr := frozen_of_row w6 g3 31 _ _ (on_blk_mul H6.out)
        have hst := SP.on.setCell (i := 31) H6.out (vb (UInt8.ofNat (tB (whY x y) + 128)))
        rw [show Yb.setIfInBounds 31 (vb (UInt8.ofNat (tB (whY x y) + 128))) = Rb by rw [← HYb.out, ← HRb.out, HN.out]; unfold zB; rw [zb_set, Hup.out]] at hst
        have Hst := hide hst
        clear hst
        have hv : (vb (UInt8.ofNat (tB (whY x y)))) = .int .u8 ((tB (whY x y) : Nat) : Int) := by unfold vb; rw [UInt8.toNat_ofNat', Nat.mod_eq_of_lt (by omega)]
        have hv2 : (vb (UInt8.ofNat (tB (whY x y) + 128))) = .int .u8 (((tB (whY x y) : Nat) : Int) + 128) := by unfold vb; rw [UInt8.toNat_ofNat', Nat.mod_eq_of_lt (by omega)]; rfl
        rw [hv] at hcell
        rw [hv2] at Hst
        have Hor2 := Hor.out
        clear hv hv2
        generalize tB (whY x y) = tt at *
        have H7 := hide Hst.out
        have S7 := hide (S6.out.setCell ⟨g3, 31, Option.none⟩ (.int .u8 ((tt : Int) + 128)))
        clear Hst
        have gy := on_blk_mul H7.out
        have gR := on_blk_mul H7.out.right
        have HB := hide (all_below H7.out.right.right.right S7.out)
        go_wp2_with (first
          | (refine wpList_store_row rfl _ _ _ rfl (w.heap.size + 1) Rb rfl rfl _ _ gR HsRb.out HzRb.out HoRb.out ?_)
          | (refine wpList_load_row rfl _ _ rfl (g3) rfl _ Rb _ _ gy hub rfl HsRb.out ?_))
        exact bodyPost_ret (v := .agg Rb) (results_cell_row Tryd.results15 _ _ (w.heap.size + 1) _ Rb (0, 0) _ rfl (setRow_heap_same _ _ _ _ _ _ gR) hub rfl HsRb.out) rfl ⟨rfl, below_setRow HB.out (by omega) _⟩
      · rw [decide_eq_false hb]
        have HN := hide (HN0.out hb)
        clear hb
        have gy := on_blk_mul H6.out
        have hRY : Rb = Yb := by rw [← HYb.out, ← HRb.out, HN.out]
        have gR := on_blk_mul H6.out.right
        have HB := hide (all_below H6.out.right.right.right S6.out)
        go_wp2_with (first
          | (refine wpList_store_row rfl _ _ _ rfl (w.heap.size + 1) Yb rfl rfl _ _ gR HsYb.out HzYb.out HoYb.out ?_)
          | (refine wpList_load_row rfl _ _ rfl (g3) rfl _ Yb _ _ gy hub rfl HsYb.out ?_))
        exact bodyPost_ret (v := .agg Yb) (results_cell_row Tryd.results15 _ _ (w.heap.size + 1) _ Yb (0, 0) _ rfl (setRow_heap_same _ _ _ _ _ _ gR) hub rfl HsYb.out) rfl ⟨by rw [hRY], below_setRow HB.out (by omega) _⟩
end Cv
end Go.Proofs.YtbplbdnofobbiaaDoor
