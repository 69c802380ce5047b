/- curve: which bytes are a point's. -/
import Derived.Test.YtbplbdnofobbiaaDoorCv10
import Derived.Test.YtbplbdnofobbiaaDoorCv12
set_option linter.unusedVariables false
set_option linter.unusedSimpArgs false
set_option maxRecDepth 100000
set_option maxHeartbeats 8000000
namespace Go.Proofs.YtbplbdnofobbiaaDoor
namespace Cv
open Fe
open Go.ChangeShapes Go.WideShapes Go.ChangeAt Go.RowKit
def decV (n : Nat) : Value := match Ed.decPt (bl n) with | some p => .tuple #[.agg (ptC p), .int .i64 0] | Option.none => .tuple #[.agg (pC 0 0), .int .i64 7]
theorem decV_bad (n : Nat) (h : ¬ Ed.isPt (bl n) = true) : decV n = .tuple #[.agg (pC 0 0), .int .i64 7] := by
 unfold decV; rw [Ed.decPt_none _ h]
theorem decV_good (n : Nat) (h : Ed.isPt (bl n) = true) : decV n = .tuple #[.agg (pC (Ed.xB (bl n)) (Ed.yB (bl n))), .int .i64 0] := by
 unfold decV; rw [Ed.decPt_some _ h]
 show Value.tuple #[.agg (pC (Ed.el (Ed.xB (bl n))).val (Ed.el (Ed.yB (bl n))).val), .int .i64 0] = _
 rw [Ed.el_val _ (Ed.xB_ok _ h).1, Ed.el_val _ ((Ed.isPt_iff _).1 h).1]
theorem yB_bl (n : Nat) (h : n < 256 ^ 32) : Ed.yB (bl n) = n % 2 ^ 255 := by unfold Ed.yB; rw [leN_bl n h]
theorem oddB_bl (n : Nat) (h : n < 256 ^ 32) : Ed.oddB (bl n) = decide (2 ^ 255 ≤ n) := by unfold Ed.oddB; rw [leN_bl n h]
theorem even_zero (a : Nat) (ha : a < P5) (h : root2 a * root2 a % P5 = a) : evenR (root2 a) = 0 ↔ a = 0 := by
 obtain ⟨l1, e1, s1⟩ := evenR_ok (root2 a) (root2_lt a)
 rw [h] at s1
 generalize evenR (root2 a) = r at *
 clear h
 constructor
 ·intro e
  subst e
  rw [Nat.zero_mul] at s1
  exact s1.symm.trans (Nat.zero_mod _)
 ·intro e
  subst e
  exact Ed.sq_zero _ l1 s1
theorem dec_far (n : Nat) (hn : n < 256 ^ 32) (h : ¬ n % 2 ^ 255 < P5) : decV n = .tuple #[.agg (pC 0 0), .int .i64 7] :=
 decV_bad n (fun hp => h (by have := ((Ed.isPt_iff _).1 hp).1; rwa [yB_bl n hn] at this))
theorem dec_no (n : Nat) (hn : n < 256 ^ 32) (h : ¬ root2 (Ed.aF (n % 2 ^ 255)) * root2 (Ed.aF (n % 2 ^ 255)) % P5 = Ed.aF (n % 2 ^ 255)) : decV n = .tuple #[.agg (pC 0 0), .int .i64 7] :=
 decV_bad n (fun hp => h (by have := ((Ed.isPt_iff _).1 hp).2.1; rwa [yB_bl n hn] at this))
theorem dec_zero (n : Nat) (hn : n < 256 ^ 32) (hr : root2 (Ed.aF (n % 2 ^ 255)) * root2 (Ed.aF (n % 2 ^ 255)) % P5 = Ed.aF (n % 2 ^ 255)) (ho : decide (2 ^ 255 ≤ n) = true) (h : evenR (root2 (Ed.aF (n % 2 ^ 255))) = 0) : decV n = .tuple #[.agg (pC 0 0), .int .i64 7] :=
 decV_bad n (fun hp => by
  have := ((Ed.isPt_iff _).1 hp).2.2
  rw [yB_bl n hn, oddB_bl n hn] at this
  exact this ⟨ho, (even_zero _ (Ed.aF_lt _) hr).1 h⟩)
theorem dec_ok (n : Nat) (hn : n < 256 ^ 32) (hy : n % 2 ^ 255 < P5) (hr : root2 (Ed.aF (n % 2 ^ 255)) * root2 (Ed.aF (n % 2 ^ 255)) % P5 = Ed.aF (n % 2 ^ 255)) (h : ¬ (decide (2 ^ 255 ≤ n) = true ∧ evenR (root2 (Ed.aF (n % 2 ^ 255))) = 0)) :
  decV n = .tuple #[.agg (pC (Ed.turnP (evenR (root2 (Ed.aF (n % 2 ^ 255)))) (decide (2 ^ 255 ≤ n))) (n % 2 ^ 255)), .int .i64 0] := by
 have hp : Ed.isPt (bl n) = true := (Ed.isPt_iff _).2 (by
  rw [yB_bl n hn, oddB_bl n hn]
  exact ⟨hy, hr, fun h2 => h ⟨h2.1, (even_zero _ (Ed.aF_lt _) hr).2 h2.2⟩⟩)
 rw [decV_good n hp]
 unfold Ed.xB
 rw [yB_bl n hn, oddB_bl n hn]
theorem odd_top (n : Nat) (hn : n < 256 ^ 32) : decide (128 ≤ tB n) = decide (2 ^ 255 ≤ n) := by
 have h1 := P31
 have h2 := P31_pos
 unfold tB
 generalize 256 ^ 31 = K at *
 generalize 2 ^ 255 = M at *
 subst h1
 rw [Bool.eq_iff_iff, decide_eq_true_iff, decide_eq_true_iff, Nat.le_div_iff_mul_le h2]
theorem fdec (y : Nat) (h : y < 256 ^ 32) (w : World) (hT : Tab5 w) :
  Calls Tryd.prog 52 #[.agg (zB y)] w fun e w' => e = .returned (if y < P5 then .tuple #[.agg (q4 y), .int .i64 0] else .tuple #[.agg (q4 0), .int .i64 7]) ∧ Below w.heap.size w w' := by
 have := Fe.decode_any (bl y) (bl_len y) w hT
 unfold decE at this
 rw [leN_bl y h] at this
 exact this
theorem load_row_w {P : Program} {ops : Array Oper} {rest : List Oper} {o : Oper} {a : Act} {w : World} {Q : Exit → Act → World → Prop} (hw : Region.wanted o (yielded ops a.tmps) = true) (ty : TypeId) (x : Operand) (ho : o.op = .load ty x)
  (g : Nat) (hx : a.eval x = .pointer (some ⟨g, 0, .none⟩)) (t : TypeId) (cs : Array Value) (fr : Nat × Nat) (d : TypeDesc) (hg : w.heap[g]? = some (.cells cs t fr))
  (hu : P.underlying ty = some d) (hd : (match d with | .struct _ | .array _ _ => true | _ => false) = true) (hi : (P.info? ty).map (·.size) = some cs.size)
  (h : wpList P ops Q rest (a.put o.dst (.agg cs)) w) : wpList P ops Q (o :: rest) a w :=
 wpList_step fun K hK => by rw [if_pos hw]; exact wp_load_row ty x ho g hx t cs fr d hg hu hd hi (hK _ _ h)
theorem run_be (w : World) : (Instr.build 25 #[]).run Tryd.prog w = .ok (.agg (q4 0)) w := by rw [qz4]; kernel_rfl
theorem pdecode_any (n : Nat) (hn : n < 256 ^ 32) (w : World) (hT : TabC w) (hD : TabD w) :
  Calls Tryd.prog 21 #[.agg (zB n)] w fun e w' => e = .returned (decV n) ∧ Below w.heap.size w w' := by
 have h4 := P5_lt
 have hx0 := evenR_ok (root2 (Ed.aF (n % 2 ^ 255))) (root2_lt _)
 have hub := Tryd.underlying38
 have hup := Tryd.underlying27
 have hu := Tryd.underlying25
 have hzB := zBZero
 have hzP := pZero
 have hzE := eZero
 have h0 := ((on_all w).alloc (.cells (zB n) 38)).alloc (.cells (pC 0 0) 27)
 have s0 := ((Str.refl w).alloc (.cells (zB n) 38)).alloc (.cells (pC 0 0) 27)
 try simp only [World.size_alloc] at h0
 have H1 := hide h0
 have S1 := hide s0
 clear h0 s0
 have hM := Nat.mod_lt n (show 0 < 2 ^ 255 from Nat.pow_pos (by decide))
 have hd := fun X h => fdec (n % 2 ^ 255) (by have : 256 ^ 32 = 2 * 2 ^ 255 := by decide +kernel
                                              omega) X h
 have htl := tB_lt n hn
 have Hcell := hide (zB_cell n hn)
 have hmask := bl_mask n hn
 have h7 := top7 ⟨tB n, htl⟩
 have hand := and127 ⟨tB n, htl⟩
 have hodd := odd_top n hn
 have Hfar := hide (dec_far n hn)
 have Hno := hide (dec_no n hn)
 have Hzero := hide (dec_zero n hn)
 have Hok := hide (dec_ok n hn)
 have hxof := fun (h : n % 2 ^ 255 < P5) X h2 h3 => xof_any (n % 2 ^ 255) h X h2 h3
 rw [rootV_if] at hxof
 dsimp only at h7 hand
 rw [hodd] at h7
 generalize hy : n % 2 ^ 255 = y at *
 generalize decide (2 ^ 255 ≤ n) = od at *
 generalize hE : evenR (root2 (Ed.aF y)) = x at *
 generalize hro : root2 (Ed.aF y) * root2 (Ed.aF y) % P5 = ro at *
 generalize Ed.aF y = af at *
 have hneg := fun X h => neg_any x hx0.1 X h
 have heq := fun X => eq_q4 X 9998 25 Tryd.underlying25 x 0 (by omega) (by decide)
 have Hx := hide hxof
 have Hn := hide hneg
 have He := hide heq
 have Hd := hide hd
 have Hb1 := hide (fun X => run_bp x y X)
 have Hb2 := hide (fun X => run_bp ((P5 - x) % P5) y X)
 have Hbe := hide run_be
 have Hb0 := hide run_b0
 have HV : Hid (vb (UInt8.ofNat (tB n)) = .int .u8 ((tB n : Nat) : Int)) := hide (by unfold vb; rw [UInt8.toNat_ofNat', Nat.mod_eq_of_lt (by omega)])
 have HV2 : Hid (vb (UInt8.ofNat (tB n % 128)) = .int .u8 ((tB n : Nat) % 128 : Int)) := hide (by unfold vb; rw [UInt8.toNat_ofNat', Nat.mod_eq_of_lt (by omega)]; rfl)
 have Hset : Hid ((zB n).setIfInBounds 31 (vb (UInt8.ofNat (tB n % 128))) = zB y) := hide (by unfold zB; rw [zb_set, hmask])
 have HgdE : Hid (Tryd.prog.eqGuardType Tryd.prog.depth 25 = false) := hide (by kernel_rfl)
 have htr := Ed.turnP_true x
 obtain ⟨HsZ4, HoZ4, HzZ4⟩ := eF 0
 obtain ⟨HsZp, HoZp, HzZp⟩ := b3 (pInfo 0 0) (pC_one 0 0) (pSize 0 0 0 0)
 have hfa := Ed.turnP_false x
 rw [HV2.out] at Hset
 rw [HV.out] at Hcell
 generalize tB n = tt at *
 have Htop := hide h7
 have Hand := hide hand
 have HM := hide hM
 have hTab := hide hT
 have Htr := hide htr
 have Hfa := hide hfa
 clear hd hxof hneg heq hM hmask h7 hand hodd hx0 h4 hn hE hro hy htl htr hfa HV HV2
 obtain ⟨HsBn, HoBn, HzBn⟩ := b3 (zBInfo n) (zBOne n) (zBSize 0 n)
 obtain ⟨HsBy, HoBy, HzBy⟩ := b3 (zBInfo y) (zBOne y) (zBSize 0 y)
 obtain ⟨HsRp, HoRp, HzRp⟩ := b3 (pInfo x y) (pC_one x y) (pSize 0 0 x y)
 obtain ⟨HsRn, HoRn, HzRn⟩ := b3 (pInfo ((P5 - x) % P5) y) (pC_one ((P5 - x) % P5) y) (pSize 0 0 ((P5 - x) % P5) y)
 obtain ⟨HsYe, HoYe, HzYe⟩ := eF y
 obtain ⟨HsXe, HoXe, HzXe⟩ := eF x
 obtain ⟨HsNe, HoNe, HzNe⟩ := b3 (eInfo ((P5 - x) % P5)) (eOne ((P5 - x) % P5)) (eSize 0 ((P5 - x) % P5))
 generalize zB n = Bn at *
 generalize zB y = By at *
 generalize hvRp : pC x y = Rp at *
 have HRp := hide hvRp
 clear hvRp
 generalize hvRn : pC ((P5 - x) % P5) y = Rn at *
 have HRn := hide hvRn
 clear hvRn
 generalize q4 y = Ye at *
 generalize q4 x = Xe at *
 generalize q4 ((P5 - x) % P5) = Ne at *
 generalize zB 0 = ZB at *
 generalize pC 0 0 = Zp at *
 generalize q4 0 = Z4 at *
 go_enter Tryd.func21, Tryd.ntmps21
 refine wp_seq_h fun K1 hK1 => ?_
 go_wp2_with fail
 refine hK1.out _ _ ?_
 clear hK1 K1
 generalize (w.alloc (.cells Bn 38)).alloc (.cells Zp 27) = w1 at *
 obtain ⟨Zf, hZf⟩ : ∃ z, z = Z4 := ⟨_, rfl⟩
 have HsZf : Hid ((Tryd.prog.info? 25).map (·.size) = some Zf.size) := hide (by rw [hZf]; exact HsZ4.out)
 have HoZf : Hid (Zf.all (·.oneCell') = true) := hide (by rw [hZf]; exact HoZ4.out)
 have HzZf : Hid (Z4.size = Zf.size) := hide (by rw [hZf])
 have HZf := hide hZf
 clear hZf
 have hcell := (cell_of_row w1 w.heap.size 31 Bn _ _ (on_blk_mul H1.out.right)).trans Hcell.out
 have hfr := frozen_of_row w1 w.heap.size 31 _ _ (on_blk_mul H1.out.right)
 have hst : (blk w.heap.size (.cells (Bn.setIfInBounds 31 (.int .u8 ((tt : Int) % 128))) 38 (0, 0)) * (blk (w.heap.size + 1) (.cells Zp 27 (0, 0)) * all w)).on _ := SP.on.setCell (i := 31) (by have := H1.out; rw [SP.mul_left_comm] at this; exact this) (.int .u8 ((tt : Int) % 128))
 rw [Hset.out, SP.mul_left_comm] at hst
 have H2 := hide hst
 have S2 := hide (S1.out.setCell ⟨w.heap.size, 31, .none⟩ (.int .u8 ((tt : Int) % 128)))
 have gy := on_blk_mul H2.out.right
 have h7 := Htop.out
 have hand := Hand.out
 clear hst
 go_wp2_with (first
  | (refine wL gy hub HsBy ?_))
 generalize w1.setCell ⟨w.heap.size, 31, .none⟩ (.int .u8 ((tt : Int) % 128)) = w2 at *
 clear gy hcell hfr H1 S1 h7 hand
 refine (Decidable.em (y < P5)).symm.elim (fun hyy => ?_) (fun hyy => ?_)
 ·have HF := hide (Hfar.out hyy)
  have Hd2 : Hid (∀ X, Tab5 X → Calls Tryd.prog 52 #[.agg By] X fun e w' => e = .returned (.tuple #[.agg Zf, .int .i64 7]) ∧ Below X.heap.size X w') := hide (fun X h => by rw [HZf.out]; have := Hd.out X h; rw [if_neg hyy] at this; exact this)
  clear hyy
  refine (Hd2.out _ (hT.below (all_below H2.out.right.right S2.out)).f).mono ?_
  rintro e w3 ⟨rfl, hB⟩
  obtain ⟨H3, S3⟩ := nx H2.out S2.out hB
  clear hB H2 S2
  obtain ⟨gN, gM, H4, S4⟩ := newV H3.out S3.out Z4 Zf 25
  have gR := on_blk_mul H4.out.right
  have HB := hide (all_below H4.out.right.right.right S4.out)
  go_wp2_with (first
   | (refine wS gR HsZp.out rfl HoZp.out ?_)
   | (refine wS gN HsZf HzZf HoZf ?_)
   | (refine b0_arm rfl 27 rfl Zp (Hb0.out _) ?_))
  exact retT Tryd.results21 gR hup HsZp.out rfl (.int .i64 7) (by rw [HF.out]) HB.out (by omega)
 ·have Hd2 : Hid (∀ X, Tab5 X → Calls Tryd.prog 52 #[.agg By] X fun e w' => e = .returned (.tuple #[.agg Ye, .int .i64 0]) ∧ Below X.heap.size X w') := hide (fun X h => by have := Hd.out X h; rw [if_pos hyy] at this; exact this)
  have Hx2 := hide (fun X h h3 => Hx.out hyy X h h3)
  refine (Hd2.out _ (hT.below (all_below H2.out.right.right S2.out)).f).mono ?_
  rintro e w3 ⟨rfl, hB⟩
  obtain ⟨H3, S3⟩ := nx H2.out S2.out hB
  clear hB H2 S2
  obtain ⟨gN, gM, H4, S4⟩ := newV H3.out S3.out Z4 Ye 25
  have gL := on_blk_mul H4.out
  go_wp2_with (first
   | (refine wS gN HsYe HzYe HoYe ?_)
   | (refine wL gL hu HsYe ?_))
  clear gL
  generalize (w3.alloc (.cells Z4 25)).setRow w3.heap.size Ye = w4 at *
  clear gN gM H3 S3
  generalize w3.heap.size = p5 at *
  refine (Decidable.em (ro = af)).symm.elim (fun hr => ?_) (fun hr => ?_)
  ·have HF := hide (Hno.out hr)
   have Hx3 : Hid (∀ X, TabC X → TabD X → Calls Tryd.prog 53 #[.agg Ye] X fun e w' => e = .returned (.tuple #[.agg Zf, .bool false]) ∧ Below X.heap.size X w') := hide (fun X h h3 => by rw [HZf.out]; have := Hx2.out X h h3; rw [if_neg hr] at this; exact this)
   clear hyy hr
   refine (Hx3.out _ (hT.below (all_below H4.out.right.right.right S4.out)) (hD.below (all_below H4.out.right.right.right S4.out))).mono ?_
   rintro e w5 ⟨rfl, hB⟩
   obtain ⟨H5, S5⟩ := nx H4.out S4.out hB
   clear hB H4 S4
   obtain ⟨gN, gM, H6, S6⟩ := newV H5.out S5.out Z4 Zf 25
   have gR := on_blk_mul H6.out.right.right
   have HB := hide (all_below H6.out.right.right.right.right S6.out)
   go_wp2_with (first
    | (refine wS gR HsZp.out rfl HoZp.out ?_)
    | (refine wS gN HsZf HzZf HoZf ?_)
    | (refine b0_arm rfl 27 rfl Zp (Hb0.out _) ?_))
   exact retT Tryd.results21 gR hup HsZp.out rfl (.int .i64 7) (by rw [HF.out]) HB.out (by omega)
  ·have Hx3 : Hid (∀ X, TabC X → TabD X → Calls Tryd.prog 53 #[.agg Ye] X fun e w' => e = .returned (.tuple #[.agg Xe, .bool true]) ∧ Below X.heap.size X w') := hide (fun X h h3 => by have := Hx2.out X h h3; rw [if_pos hr] at this; exact this)
   refine (Hx3.out _ (hT.below (all_below H4.out.right.right.right S4.out)) (hD.below (all_below H4.out.right.right.right S4.out))).mono ?_
   rintro e w5 ⟨rfl, hB⟩
   obtain ⟨H5, S5⟩ := nx H4.out S4.out hB
   clear hB H4 S4
   have hcases : od = true ∨ od = false := by cases od <;> simp
   rcases hcases with rfl | rfl
   ·by_cases hx : x = 0
    ·have HF := hide (Hzero.out hr rfl hx)
     have He2 := hide (fun X => (He.out X).trans (by rw [decide_eq_true hx]))
     clear hyy hr hx
     obtain ⟨gN, gM, H6, S6⟩ := newV H5.out S5.out Z4 Xe 25
     have gL := on_blk_mul H6.out
     have gR := on_blk_mul H6.out.right.right
     have HB := hide (all_below H6.out.right.right.right.right S6.out)
     go_wp2_with (first
      | (refine wS gR HsZp.out rfl HoZp.out ?_)
      | (refine wS gN HsXe HzXe HoXe ?_)
      | (refine load_row_w rfl _ _ rfl (w5.heap.size) rfl _ Xe _ _ gL hu rfl HsXe ?_)
      | (refine b0_arm rfl 25 rfl Z4 (Hbe.out _) ?_)
      | (refine eq_arm rfl _ _ _ _ rfl HgdE.out Xe Z4 rfl rfl true (He2.out _) ?_)
      | (refine b0_arm rfl 27 rfl Zp (Hb0.out _) ?_))
     exact retT Tryd.results21 gR hup HsZp.out rfl (.int .i64 7) (by rw [HF.out]) HB.out (by omega)
    ·have HF := hide (Hok.out hyy hr (fun h => hx h.2))
     rw [Htr.out, HRn.out] at HF
     have He2 := hide (fun X => (He.out X).trans (by rw [decide_eq_false hx]))
     clear hyy hr hx
     obtain ⟨gN, gM, H6, S6⟩ := newV H5.out S5.out Z4 Xe 25
     have gL := on_blk_mul H6.out
     go_wp2_with (first
      | (refine wS gN HsXe HzXe HoXe ?_)
      | (refine load_row_w rfl _ _ rfl (w5.heap.size) rfl _ Xe _ _ gL hu rfl HsXe ?_)
      | (refine b0_arm rfl 25 rfl Z4 (Hbe.out _) ?_)
      | (refine eq_arm rfl _ _ _ _ rfl HgdE.out Xe Z4 rfl rfl false (He2.out _) ?_))
     clear gL
     generalize (w5.alloc (.cells Z4 25)).setRow w5.heap.size Xe = w6 at *
     clear gN gM H5 S5
     generalize w5.heap.size = p7 at *
     refine (Hn.out _ (hT.below (all_below H6.out.right.right.right.right S6.out)).f).mono ?_
     rintro e w7 ⟨rfl, hB⟩
     obtain ⟨H7, S7⟩ := nx H6.out S6.out hB
     clear hB H6 S6
     have H8 := hide (st0 H7.out (cs := Ne))
     have S8 := hide (S7.out.setRow (p7) Ne)
     have gW := on_blk_mul H7.out
     have gL := on_blk_mul H8.out
     have gY := on_blk_mul H8.out.right
     have gR := on_blk_mul H8.out.right.right
     have HB := hide (all_below H8.out.right.right.right.right S8.out)
     go_wp2_with (first
      | (refine wS gR HsRn HzRn HoRn ?_)
      | (refine wS gW HsNe.out (HzXe.out.symm.trans HzNe.out) HoNe.out ?_)
      | (refine wL gL hu HsNe ?_)
      | (refine wL gY hu HsYe ?_)
      | (refine b2_arm rfl 27 0 1 _ _ rfl Ne Ye Rn rfl rfl (Hb2.out _) ?_))
     exact retT Tryd.results21 gR hup HsRn.out rfl (.int .i64 0) (by rw [HF.out]) HB.out (by omega)
   ·have HF := hide (Hok.out hyy hr (fun h => nomatch h.1))
    rw [Hfa.out, HRp.out] at HF
    clear hyy hr
    obtain ⟨gN, gM, H6, S6⟩ := newV H5.out S5.out Z4 Xe 25
    have gL := on_blk_mul H6.out
    have gY := on_blk_mul H6.out.right
    have gR := on_blk_mul H6.out.right.right
    have HB := hide (all_below H6.out.right.right.right.right S6.out)
    go_wp2_with (first
     | (refine wS gR HsRp HzRp HoRp ?_)
     | (refine wS gN HsXe HzXe HoXe ?_)
     | (refine load_row_w rfl _ _ rfl (w5.heap.size) rfl _ Xe _ _ gL hu rfl HsXe ?_)
     | (refine wL gY hu HsYe ?_)
     | (refine b2_arm rfl 27 0 1 _ _ rfl Xe Ye Rp rfl rfl (Hb1.out _) ?_))
    exact retT Tryd.results21 gR hup HsRp.out rfl (.int .i64 0) (by rw [HF.out]) HB.out (by omega)
end Cv
end Go.Proofs.YtbplbdnofobbiaaDoor
