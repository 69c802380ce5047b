/- the document's points: which bytes are a point's; the base point. -/
import Derived.Test.YtbplbdnofobbiaaDoorGCv2
import Derived.Test.YtbplbdnofobbiaaDoorCv13
set_option linter.unusedVariables false
set_option linter.unusedSimpArgs false
set_option maxRecDepth 100000
set_option maxHeartbeats 8000000
namespace Go.Proofs.YtbplbdnofobbiaaDoor
namespace Cv
open Fe
open Go.ChangeShapes Go.WideShapes Go.ChangeAt Go.RowKit
def decW (n : Nat) : Value := match Ed.decPt (bl n) with | some p => .tuple #[.agg (mC p.x.val p.y.val 1), .bool true] | Option.none => .tuple #[.agg (mC 0 0 0), .bool false]
theorem decW_bad (n : Nat) (h : ¬ Ed.isPt (bl n) = true) : decW n = .tuple #[.agg (mC 0 0 0), .bool false] := by
 unfold decW; rw [Ed.decPt_none _ h]
theorem decW_good (n : Nat) (h : Ed.isPt (bl n) = true) : decW n = .tuple #[.agg (mC (Ed.xB (bl n)) (Ed.yB (bl n)) 1), .bool true] := by
 unfold decW; rw [Ed.decPt_some _ h]
 show Value.tuple #[.agg (mC (Ed.el (Ed.xB (bl n))).val (Ed.el (Ed.yB (bl n))).val 1), .bool true] = _
 rw [Ed.el_val _ (Ed.xB_ok _ h).1, Ed.el_val _ ((Ed.isPt_iff _).1 h).1]
theorem decW_far (n : Nat) (hn : n < 256 ^ 32) (h : ¬ n % 2 ^ 255 < P5) : decW n = .tuple #[.agg (mC 0 0 0), .bool false] :=
 decW_bad n (fun hp => h (by have := ((Ed.isPt_iff _).1 hp).1; rwa [yB_bl n hn] at this))
theorem decW_no (n : Nat) (hn : n < 256 ^ 32) (h : ¬ Ed.droot (Ed.aF (n % 2 ^ 255)) * Ed.droot (Ed.aF (n % 2 ^ 255)) % P5 = Ed.aF (n % 2 ^ 255)) : decW n = .tuple #[.agg (mC 0 0 0), .bool false] :=
 decW_bad n (fun hp => h (by
  have := ((Ed.isPt_iff _).1 hp).2.1
  rw [yB_bl n hn] at this
  rw [Ed.droot_sq]; exact this))
theorem droot_zero (a : Nat) (h : Ed.droot a * Ed.droot a % P5 = a) : Ed.droot a = 0 ↔ a = 0 := by
 have hl := Ed.droot_lt a
 generalize Ed.droot a = r at *
 constructor
 ·intro e
  subst e
  rw [Nat.zero_mul] at h
  exact h.symm.trans (Nat.zero_mod _)
 ·intro e
  rw [e] at h
  exact Ed.sq_zero _ hl h
theorem decW_zero (n : Nat) (hn : n < 256 ^ 32) (hr : Ed.droot (Ed.aF (n % 2 ^ 255)) * Ed.droot (Ed.aF (n % 2 ^ 255)) % P5 = Ed.aF (n % 2 ^ 255)) (ho : decide (2 ^ 255 ≤ n) = true) (h : Ed.droot (Ed.aF (n % 2 ^ 255)) = 0) : decW n = .tuple #[.agg (mC 0 0 0), .bool false] :=
 decW_bad n (fun hp => by
  have := ((Ed.isPt_iff _).1 hp).2.2
  rw [yB_bl n hn, oddB_bl n hn] at this
  exact this ⟨ho, (droot_zero _ hr).1 h⟩)
theorem decW_ok (n : Nat) (hn : n < 256 ^ 32) (hy : n % 2 ^ 255 < P5) (hr : Ed.droot (Ed.aF (n % 2 ^ 255)) * Ed.droot (Ed.aF (n % 2 ^ 255)) % P5 = Ed.aF (n % 2 ^ 255)) (h : ¬ (decide (2 ^ 255 ≤ n) = true ∧ Ed.droot (Ed.aF (n % 2 ^ 255)) = 0)) :
  decW n = .tuple #[.agg (mC (Ed.turnD (Ed.droot (Ed.aF (n % 2 ^ 255))) (decide (2 ^ 255 ≤ n))) (n % 2 ^ 255) 1), .bool true] := by
 have hr2 := hr
 rw [Ed.droot_sq] at hr2
 have h0 : ¬ (decide (2 ^ 255 ≤ n) = true ∧ Ed.aF (n % 2 ^ 255) = 0) := fun h2 => h ⟨h2.1, (droot_zero _ hr).2 h2.2⟩
 have hp : Ed.isPt (bl n) = true := (Ed.isPt_iff _).2 (by
  rw [yB_bl n hn, oddB_bl n hn]
  exact ⟨hy, hr2, h0⟩)
 rw [decW_good n hp, Ed.turn_same _ (Ed.aF_lt _) _ hr2 h0]
 unfold Ed.xB
 rw [yB_bl n hn, oddB_bl n hn]
theorem run_bm0 (w : World) : (Instr.build 31 #[]).run Tryd.prog w = .ok (.agg (mC 0 0 0)) w := by
 unfold mC
 rw [ds_lit]
 simp only [dg_0]
 kernel_rfl
theorem b3_arm {ops : Array Oper} {rest : List Oper} {o : Oper} {a : Act} {w : World} {Q : Exit → Act → World → Prop} (hw : Region.wanted o (yielded ops a.tmps) = true) (T : TypeId) (i j k : Nat) (x y z : Operand) (ho : o.op = .build T #[(i, x), (j, y), (k, z)])
  (A B C R : Array Value) (hx : a.eval x = .agg A) (hy : a.eval y = .agg B) (hz : a.eval z = .agg C) (hb : (Instr.build T #[(i, .agg A), (j, .agg B), (k, .agg C)]).run Tryd.prog w = .ok (.agg R) w) (hk : wpList Tryd.prog ops Q rest (a.put o.dst (.agg R)) w) : wpList Tryd.prog ops Q (o :: rest) a w := by
 have hr : (execOp a.eval o).run Tryd.prog w = .ok (.value (.agg R)) w := by
  unfold execOp
  rw [ho]
  simp only [List.map_toArray, List.map_cons, List.map_nil, hx, hy, hz]
  rw [Sem.run_bind, hb]; rfl
 exact wpList_step fun _ hK => by
  rw [if_pos hw]; unfold Oper.wp; simp only [hr]; exact hK _ _ hk
theorem mdecode_any (n : Nat) (hn : n < 256 ^ 32) (w : World) :
  Calls Tryd.prog 22 #[.agg (zB n)] w fun e w' => e = .returned (decW n) ∧ Below w.heap.size w w' := by
 have hub := Tryd.underlying38
 have hum := Tryd.underlying31
 have hun := Tryd.underlying29
 have hzB := zBZero
 have hzM := mZero
 have hzN := nZero
 have h0 := ((on_all w).alloc (.cells (zB n) 38)).alloc (.cells (mC 0 0 0) 31)
 have s0 := ((Str.refl w).alloc (.cells (zB n) 38)).alloc (.cells (mC 0 0 0) 31)
 try simp only [World.size_alloc] at h0
 have H1 := hide h0
 have S1 := hide s0
 clear h0 s0
 have hM := Nat.mod_lt n (show 0 < 2 ^ 255 from Nat.pow_pos (by decide))
 have k1 := fun X => frombytes_any (bl n) (bl_len n) X
 rw [leN_bl n hn] at k1
 change ∀ X, Calls _ _ #[.agg (zB n)] X fun e w' => e = .returned (.tuple #[.agg (n17 (n % 2 ^ 255)), .bool (decide (2 ^ 255 ≤ n))]) ∧ Below X.heap.size X w' at k1
 have hFar := hide (decW_far n hn)
 have hNo := hide (decW_no n hn)
 have hZero := hide (decW_zero n hn)
 have hOk := hide (decW_ok n hn)
 have haf := fun h : n % 2 ^ 255 < P5 => aF_nat (n % 2 ^ 255) h
 generalize n % 2 ^ 255 = y at *
 generalize decide (2 ^ 255 ≤ n) = od at *
 have hk1 := hide k1
 have hk2 := hide (fun X => rless_any y P5 hM Ed.P5_255 X)
 have hkP := hide (fun X => rp_any X)
 have hk3 := hide (fun X => rsm 1 (by decide) (by decide) X)
 have hk0 := hide (fun X => rsm 0 (by decide) (by decide) X)
 have hkD := hide (fun X => md_any X)
 have b1 : 1 < P5 := by decide
 have bd : Ed.dN < P5 := by decide
 have bda := Ed.droot_lt (Ed.aF y)
 have baf := Ed.aF_lt y
 generalize Ed.dN = d at *
 have k4 := fun (h : y < P5) X => rmul5 y y h h X
 have bs : y * y % P5 < P5 := Nat.mod_lt _ P5_pos
 generalize y * y % P5 = s at *
 have k5 := fun X => rsub_any s 1 bs b1 X
 have bt : (s + (P5 - 1)) % P5 < P5 := Nat.mod_lt _ P5_pos
 generalize (s + (P5 - 1)) % P5 = t at *
 have k6 := fun X => rmul5 d s bd bs X
 have bds : d * s % P5 < P5 := Nat.mod_lt _ P5_pos
 generalize d * s % P5 = ds at *
 have k7 := fun X => radd5 1 ds b1 bds X
 rw [Nat.add_comm 1 ds] at k7
 have bu : (ds + 1) % P5 < P5 := Nat.mod_lt _ P5_pos
 generalize (ds + 1) % P5 = u at *
 have k8 := fun X => rinvert_any u bu X
 have bv : pwr u (P5 - 2) 256 < P5 := pwr_lt _ _ _
 generalize pwr u (P5 - 2) 256 = vi at *
 have k9 := fun X => rmul5 t vi bt bv X
 have ba : t * vi % P5 < P5 := Nat.mod_lt _ P5_pos
 generalize t * vi % P5 = a at *
 have Hle := hide (fun h => (haf h).symm)
 have k10 := fun X => mroot_any a ba X
 have hE1 := hide (fun X => eq_n17 X 9998 (Ed.droot a * Ed.droot a % P5) a (lt255 (Nat.mod_lt _ P5_pos)) (lt255 ba))
 have bx := Ed.droot_lt a
 have hk4 := hide k4
 have hk5 := hide k5
 have hk6 := hide k6
 have hk7 := hide k7
 have hk8 := hide k8
 have hk9 := hide k9
 have hk10 := hide k10
 generalize hxx : Ed.droot a = x at *
 have k11 := fun X => rmul5 x x bx bx X
 have k12 := fun X => rneg_any x bx X
 have hE2 := hide (fun X => eq_n17 X 9998 x 0 (lt255 bx) (by decide))
 have Hbm := hide (fun x X => run_bm x y 1 X)
 have Hb1 := hide (fun X => run_bm x y 1 X)
 have Hb2 := hide (fun X => run_bm ((P5 - x) % P5) y 1 X)
 have Hb0 := hide run_bm0
 have hk11 := hide k11
 have hk12 := hide k12
 have Hx0 := hide (show (n17 x)[0]? = some (nv (dg x 0)) from dvs_get _ _ _ (ds_get 17 x 0 (by decide)))
 have Hr2 := hide (show ((dg x 0 : Nat) : Int).tmod 2 = ((x % 2 : Nat) : Int) by
  rw [Int.tmod_eq_emod_of_nonneg (by omega)]; unfold dg; rw [Nat.pow_zero, Nat.div_one]; omega)
 have HxxA := hide hxx
 generalize hxs : x * x % P5 = xs at *
 have Hxs := hide hxs
 have HsZm := hide (mInfo 0 0 0)
 have HoZm := hide (mC_one 0 0 0)
 clear k1 k4 k5 k6 k7 k8 k9 k10 k11 k12 b1 bd bs bt bds bu bv ba hM hn haf bx hxx hxs bda baf
 have HgdN : Hid (Tryd.prog.eqGuardType Tryd.prog.depth 29 = false) := hide (by kernel_rfl)
 obtain ⟨HsBn, HoBn, HzBn⟩ := b3 (zBInfo n) (zBOne n) (zBSize 0 n)
 obtain ⟨HsRp, HoRp, HzRp⟩ := b3 (mInfo x y 1) (mC_one x y 1) (mSize 0 0 0 x y 1)
 obtain ⟨HsRn, HoRn, HzRn⟩ := b3 (mInfo ((P5 - x) % P5) y 1) (mC_one ((P5 - x) % P5) y 1) (mSize 0 0 0 ((P5 - x) % P5) y 1)
 obtain ⟨HsYe, HoYe, HzYe⟩ := nF y
 obtain ⟨HsPp, HoPp, HzPp⟩ := nF P5
 obtain ⟨HsOn, HoOn, HzOn⟩ := nF 1
 obtain ⟨HsSq, HoSq, HzSq⟩ := nF s
 obtain ⟨HsTt, HoTt, HzTt⟩ := nF t
 obtain ⟨HsDd, HoDd, HzDd⟩ := nF d
 obtain ⟨HsDS, HoDS, HzDS⟩ := nF ds
 obtain ⟨HsUu, HoUu, HzUu⟩ := nF u
 obtain ⟨HsVv, HoVv, HzVv⟩ := nF vi
 obtain ⟨HsAa, HoAa, HzAa⟩ := nF a
 obtain ⟨HsXe, HoXe, HzXe⟩ := nF x
 obtain ⟨HsXX, HoXX, HzXX⟩ := nF xs
 obtain ⟨HsNe, HoNe, HzNe⟩ := b3 (nInfo ((P5 - x) % P5)) (nOne ((P5 - x) % P5)) (nSize 0 ((P5 - x) % P5))
 generalize zB n = Bn at *
 generalize hvRp : mC x y 1 = Rp at *
 have HRp := hide hvRp
 clear hvRp
 generalize hvRn : mC ((P5 - x) % P5) y 1 = Rn at *
 have HRn := hide hvRn
 clear hvRn
 generalize n17 y = Ye at *
 generalize n17 P5 = Pp at *
 generalize n17 1 = On at *
 generalize n17 s = Sq at *
 generalize n17 t = Tt at *
 generalize n17 d = Dd at *
 generalize n17 ds = DS at *
 generalize n17 u = Uu at *
 generalize n17 vi = Vv at *
 generalize n17 a = Aa at *
 generalize n17 x = Xe at *
 generalize n17 xs = XX at *
 generalize n17 ((P5 - x) % P5) = Ne at *
 generalize zB 0 = ZB at *
 generalize mC 0 0 0 = Zm at *
 generalize n17 0 = Zn at *
 go_enter Tryd.func22, Tryd.ntmps22
 refine wp_seq_h fun K1 hK1 => ?_
 go_wp2_with fail
 refine hK1.out _ _ ?_
 clear hK1 K1
 generalize (w.alloc (.cells Bn 38)).alloc (.cells Zm 31) = w1 at *
 have gA := on_blk_mul H1.out.right
 go_wp2_with (first
  | (refine wL gA hub HsBn ?_))
 clear gA
 refine (hk1.out _).mono ?_
 rintro e w2 ⟨rfl, hB⟩
 obtain ⟨H2, S2⟩ := nx H1.out S1.out hB
 clear hB H1 S1
 obtain ⟨gN, gM, H3, S3⟩ := newV H2.out S2.out Zn Ye 29
 go_wp2_with (first
  | (refine wS gN HsYe HzYe HoYe ?_))
 generalize (w2.alloc (.cells Zn 29)).setRow w2.heap.size Ye = w3 at *
 clear gN gM H2 S2
 generalize w2.heap.size = p4 at *
 refine (Decidable.em (y < P5)).symm.elim (fun hyy => ?_) (fun hyy => ?_)
 ·skip
  as_aux_lemma =>
  have HF := hide (hFar.out hyy)
  have hk2b : Hid (∀ X, Calls Tryd.prog 55 #[.agg Ye, .agg Pp] X fun e w' => e = .returned (.bool false) ∧ Below X.heap.size X w') := hide fun X => by have := hk2.out X; rw [decide_eq_false hyy] at this; exact this
  clear hyy
  refine wp_tail 3 [isV (.agg Ye), isV (.agg Pp), isV (.bool false)] ?keep ?todo ?r24
  case keep => exact ⟨Keep.isV _, Keep.isV _, Keep.isV _, trivial⟩
  case todo =>
   refine ⟨?_, ?_, ?_, trivial⟩
   ·exact fun ev X hT hb hk hf => OpOk.l (x := .tmp 4) hk.1 (on_blk_mul (H3.out.below hT)) hun HsYe.out
   ·intro ev X hT hb hk hf
    exact OpOk.c (by simp [execOp, resolve, invoke, hb.1, hb.2.1, go_sem]) (hkP.out X)
   ·intro ev X hT hb hk hf
    have e0 : ev (.tmp 15) = _ := hf.1
    have e1 : ev (.tmp 16) = _ := hf.2.1
    exact OpOk.c (by simp [execOp, resolve, invoke, e0, e1, hb.1, hb.2.1, go_sem]) (hk2b.out X)
  intro w4 hX
  rintro _ rfl _ rfl _ rfl
  obtain ⟨H4, S4⟩ := nx H3.out S3.out hX
  clear hX H3 S3
  go_wp2
  refine Rest.done ?_
  have gR := on_blk_mul H4.out.right
  have HB := hide (all_below H4.out.right.right.right S4.out)
  go_wp2_with (first
   | (refine wS gR HsZm.out rfl HoZm.out ?_)
   | (refine b0_arm rfl 31 rfl Zm (Hb0.out _) ?_))
  exact retT Tryd.results22 gR hum HsZm.out rfl (.bool false) (by rw [HF.out]) HB.out (by omega)
 ·have hk2b : Hid (∀ X, Calls Tryd.prog 55 #[.agg Ye, .agg Pp] X fun e w' => e = .returned (.bool true) ∧ Below X.heap.size X w') := hide fun X => by have := hk2.out X; rw [decide_eq_true hyy] at this; exact this
  have haf2 := Hle.out hyy
  rw [← haf2, HxxA.out] at hNo hZero hOk
  rw [Hxs.out] at hNo hZero hOk
  have hk4b := hide (fun X => hk4.out hyy X)
  have HNo := hide (fun h => hNo.out h)
  have HZero := hide (fun h => hZero.out h)
  have HOk := hide (fun h => hOk.out hyy h)
  clear hyy haf2
  refine wp_tail 3 [isV (.agg Ye), isV (.agg Pp), isV (.bool true)] ?keep ?todo ?r25
  case keep => exact ⟨Keep.isV _, Keep.isV _, Keep.isV _, trivial⟩
  case todo =>
   refine ⟨?_, ?_, ?_, trivial⟩
   ·exact fun ev X hT hb hk hf => OpOk.l (x := .tmp 4) hk.1 (on_blk_mul (H3.out.below hT)) hun HsYe.out
   ·intro ev X hT hb hk hf
    exact OpOk.c (by simp [execOp, resolve, invoke, hb.1, hb.2.1, go_sem]) (hkP.out X)
   ·intro ev X hT hb hk hf
    have e0 : ev (.tmp 15) = _ := hf.1
    have e1 : ev (.tmp 16) = _ := hf.2.1
    exact OpOk.c (by simp [execOp, resolve, invoke, e0, e1, hb.1, hb.2.1, go_sem]) (hk2b.out X)
  intro w4 hX
  rintro _ rfl _ rfl _ rfl
  obtain ⟨H4, S4⟩ := nx H3.out S3.out hX
  clear hX H3 S3
  go_wp2
  refine Rest.done ?_
  go_wp2_with fail
  refine (hk3.out _).mono ?_
  rintro e w5 ⟨rfl, hB⟩
  obtain ⟨H5, S5⟩ := nx H4.out S4.out hB
  clear hB H4 S4
  obtain ⟨gN, gM, H6, S6⟩ := newV H5.out S5.out Zn On 29
  have gL0 := on_blk_mul H6.out.right
  go_wp2_with (first
   | (refine wS gN HsOn HzOn HoOn ?_)
   | (refine wL gL0 hun HsYe ?_))
  clear gL0
  generalize (w5.alloc (.cells Zn 29)).setRow w5.heap.size On = w6 at *
  clear gN gM H5 S5
  generalize w5.heap.size = p6 at *
  refine (hk4b.out _).mono ?_
  rintro e w7 ⟨rfl, hB⟩
  obtain ⟨H7, S7⟩ := nx H6.out S6.out hB
  clear hB H6 S6
  obtain ⟨gN, gM, H8, S8⟩ := newV H7.out S7.out Zn Sq 29
  go_wp2_with (first
   | (refine wS gN HsSq HzSq HoSq ?_))
  generalize (w7.alloc (.cells Zn 29)).setRow w7.heap.size Sq = w8 at *
  clear gN gM H7 S7
  generalize w7.heap.size = p7 at *
  refine wp_tail 11 [isV (.agg Sq), isV (.agg On), isV (.agg Tt), isV (.agg On), isV (.agg Dd), isV (.agg Sq), isV (.agg DS), isV (.agg Uu), isV (.agg Vv), isV (.agg Aa), Fresh w8.heap.size (.cells Zn 29 (0, 0))] ?keep ?todo ?r26
  case keep => exact ⟨Keep.isV _, Keep.isV _, Keep.isV _, Keep.isV _, Keep.isV _, Keep.isV _, Keep.isV _, Keep.isV _, Keep.isV _, Keep.isV _, Fresh.keep, trivial⟩
  case todo =>
   refine ⟨?_, ?_, ?_, ?_, ?_, ?_, ?_, ?_, ?_, ?_, ?_, trivial⟩
   ·exact fun ev X hT hb hk hf => OpOk.l (x := .tmp 7) hk.1 (on_blk_mul (H8.out.below hT)) hun HsSq.out
   ·exact fun ev X hT hb hk hf => OpOk.l (x := .tmp 6) hk.1 (on_blk_mul (H8.out.below hT).right) hun HsOn.out
   ·intro ev X hT hb hk hf
    have e0 : ev (.tmp 24) = _ := hf.1
    have e1 : ev (.tmp 25) = _ := hf.2.1
    exact OpOk.c (by simp [execOp, resolve, invoke, e0, e1, hb.1, hb.2.1, go_sem]) (hk5.out X)
   ·exact fun ev X hT hb hk hf => OpOk.l (x := .tmp 6) hk.1 (on_blk_mul (H8.out.below hT).right) hun HsOn.out
   ·intro ev X hT hb hk hf
    exact OpOk.c (by simp [execOp, resolve, invoke, hb.1, hb.2.1, go_sem]) (hkD.out X)
   ·exact fun ev X hT hb hk hf => OpOk.l (x := .tmp 7) hk.1 (on_blk_mul (H8.out.below hT)) hun HsSq.out
   ·intro ev X hT hb hk hf
    have e0 : ev (.tmp 28) = _ := hf.1
    have e1 : ev (.tmp 29) = _ := hf.2.1
    exact OpOk.c (by simp [execOp, resolve, invoke, e0, e1, hb.1, hb.2.1, go_sem]) (hk6.out X)
   ·intro ev X hT hb hk hf
    have e0 : ev (.tmp 27) = _ := hf.1
    have e1 : ev (.tmp 30) = _ := hf.2.1
    exact OpOk.c (by simp [execOp, resolve, invoke, e0, e1, hb.1, hb.2.1, go_sem]) (hk7.out X)
   ·intro ev X hT hb hk hf
    have e0 : ev (.tmp 31) = _ := hf.1
    exact OpOk.c (by simp [execOp, resolve, invoke, e0, hb.1, hb.2.1, go_sem]) (hk8.out X)
   ·intro ev X hT hb hk hf
    have e0 : ev (.tmp 26) = _ := hf.1
    have e1 : ev (.tmp 32) = _ := hf.2.1
    exact OpOk.c (by simp [execOp, resolve, invoke, e0, e1, hb.1, hb.2.1, go_sem]) (hk9.out X)
   ·intro ev X hT hb hk hf
    exact OpOk.al hT.size (by simp [execOp, hzN, go_sem])
  intro w9 hX
  rintro _ rfl _ rfl _ rfl _ rfl _ rfl _ rfl _ rfl _ rfl _ rfl _ rfl _ ⟨g8, rfl, hgg8, hcg8⟩
  have H9 := hide (on_fresh H8.out hX hgg8 hcg8)
  have S9 := hide (S8.out.trans (Str.below hX))
  clear hX H8 S8 hgg8 hcg8
  go_wp2
  refine Rest.done ?_
  have H10 := hide (st0 H9.out (cs := Aa))
  have S10 := hide (S9.out.setRow (g8) Aa)
  have gW := on_blk_mul H9.out
  have gL := on_blk_mul H10.out
  go_wp2_with (first
   | (refine wS gW HsAa HzAa HoAa ?_)
   | (refine wL gL hun HsAa ?_))
  clear gL
  generalize w9.setRow (g8) Aa = w10 at *
  clear gW H9 S9
  refine (hk10.out _).mono ?_
  rintro e w11 ⟨rfl, hB⟩
  obtain ⟨H11, S11⟩ := nx H10.out S10.out hB
  clear hB H10 S10
  obtain ⟨gN, gM, H12, S12⟩ := newV H11.out S11.out Zn Xe 29
  go_wp2_with (first
   | (refine wS gN HsXe HzXe HoXe ?_))
  generalize (w11.alloc (.cells Zn 29)).setRow w11.heap.size Xe = w12 at *
  clear gN gM H11 S11
  generalize w11.heap.size = p9 at *
  refine (Decidable.em (xs = a)).symm.elim (fun hr => ?_) (fun hr => ?_)
  ·skip
   as_aux_lemma =>
   have HF := hide (HNo.out hr)
   have HE1b := hide (fun X => (hE1.out X).trans (by rw [decide_eq_false hr]))
   clear hr
   refine wp_region_vsg [isV (.agg Xe), isV (.agg Xe), isV (.agg XX), isV (.agg Aa), isV (.bool true), isV (.bool true), isV (undef), isV (undef), isV (undef), isV (undef), isV (undef), isV (undef), isV (.bool true)]
    (by kernel_rfl) (by kernel_rfl) rfl ?keep ?todo ?r27
   case keep => repeat (first | exact trivial | refine ⟨Keep.isV _, ?_⟩)
   case todo =>
    refine ⟨?_, ?_, ?_, ?_, ?_, ?_, ?_, ?_, ?_, ?_, ?_, ?_, ?_, trivial⟩
    ·exact fun ev X hT hb hk hf => OpOk.l (x := .tmp 9) hk.1 (on_blk_mul (H12.out.below hT)) hun HsXe.out
    ·exact fun ev X hT hb hk hf => OpOk.l (x := .tmp 9) hk.1 (on_blk_mul (H12.out.below hT)) hun HsXe.out
    ·intro ev X hT hb hk hf
     have e0 : ev (.tmp 36) = _ := hf.1
     have e1 : ev (.tmp 37) = _ := hf.2.1
     exact OpOk.c (by simp [execOp, resolve, invoke, e0, e1, hb.1, hb.2.1, go_sem]) (hk11.out X)
    ·exact fun ev X hT hb hk hf => OpOk.l (x := .tmp 8) hk.1 (on_blk_mul (H12.out.below hT).right) hun HsAa.out
    ·intro ev X hT hb hk hf
     have e0 : ev (.tmp 38) = _ := hf.1
     have e1 : ev (.tmp 39) = _ := hf.2.1
     exact OpOk.run (v := .bool true) (W' := X) (by
      unfold execOp
      simp only [e0, e1, Sem.run_bind, run_eqGuard_agg X _ _ _ _ _ _ HgdN.out, run_neq_struct, HE1b.out X, Result.andThen_ok]
      rfl) ⟨rfl, Stay.refl _⟩
    ·exact fun _ _ _ _ hk hf => OpOk.m rfl hf.1
    ·exact fun ev X hT hb hk hf => .inl ⟨true, hf.1, fun h => (nomatch h), fun _ => rfl⟩
    ·exact fun ev X hT hb hk hf => .inl ⟨true, hf.2.1, fun h => (nomatch h), fun _ => rfl⟩
    ·exact fun ev X hT hb hk hf => .inr ⟨hf.1, rfl⟩
    ·exact fun ev X hT hb hk hf => .inr ⟨hf.1, rfl⟩
    ·exact fun ev X hT hb hk hf => .inr ⟨hf.2.2.1, rfl⟩
    ·exact fun ev X hT hb hk hf => .inl ⟨true, hf.2.2.1, fun h => (nomatch h), fun _ => rfl⟩
    ·intro ev X hT hb hk hf
     have e0 : ev (.tmp 41) = _ := hf.1
     have e1 : ev (.tmp 47) = _ := hf.2.1
     exact OpOk.r (by simp [execOp, e0, e1, hb, hb.1, hb.2.1, hb.2.2, go_sem])
   intro w13 hX
   rintro _ rfl _ rfl _ rfl _ rfl _ rfl _ rfl _ rfl _ rfl _ rfl _ rfl _ rfl _ rfl _ rfl
   obtain ⟨H13, S13⟩ := nx H12.out S12.out hX
   clear hX H12 S12
   go_wp2
   refine Rest.done ?_
   have gR := on_blk_mul H13.out.right.right.right.right.right
   have HB := hide (all_below H13.out.right.right.right.right.right.right.right S13.out)
   go_wp2_with (first
    | (refine wS gR HsZm.out rfl HoZm.out ?_)
    | (refine b0_arm rfl 31 rfl Zm (Hb0.out _) ?_))
   exact retT Tryd.results22 gR hum HsZm.out rfl (.bool false) (by rw [HF.out]) HB.out (by omega)
  ·have HE1b := hide (fun X => (hE1.out X).trans (by rw [decide_eq_true hr]))
   have hcases : od = true ∨ od = false := by cases od <;> simp
   rcases hcases with rfl | rfl
   ·refine (Decidable.em (x = 0)).elim (fun hx => ?_) (fun hx => ?_)
    ·skip
     as_aux_lemma =>
     have HF := hide (HZero.out hr rfl hx)
     have HE2b := hide (fun X => (hE2.out X).trans (by rw [decide_eq_true hx]))
     clear hr hx
     refine wp_region_vsg [isV (.agg Xe), isV (.agg Xe), isV (.agg XX), isV (.agg Aa), isV (.bool false), isV (.bool false), isV (.bool true), isV (.bool true), isV (.agg Xe), isV (.agg Zn), isV (.bool true), isV (.bool true), isV (.bool true)]
      (by kernel_rfl) (by kernel_rfl) rfl ?keep ?todo ?r28
     case keep => repeat (first | exact trivial | refine ⟨Keep.isV _, ?_⟩)
     case todo =>
      refine ⟨?_, ?_, ?_, ?_, ?_, ?_, ?_, ?_, ?_, ?_, ?_, ?_, ?_, trivial⟩
      ·exact fun ev X hT hb hk hf => OpOk.l (x := .tmp 9) hk.1 (on_blk_mul (H12.out.below hT)) hun HsXe.out
      ·exact fun ev X hT hb hk hf => OpOk.l (x := .tmp 9) hk.1 (on_blk_mul (H12.out.below hT)) hun HsXe.out
      ·intro ev X hT hb hk hf
       have e0 : ev (.tmp 36) = _ := hf.1
       have e1 : ev (.tmp 37) = _ := hf.2.1
       exact OpOk.c (by simp [execOp, resolve, invoke, e0, e1, hb.1, hb.2.1, go_sem]) (hk11.out X)
      ·exact fun ev X hT hb hk hf => OpOk.l (x := .tmp 8) hk.1 (on_blk_mul (H12.out.below hT).right) hun HsAa.out
      ·intro ev X hT hb hk hf
       have e0 : ev (.tmp 38) = _ := hf.1
       have e1 : ev (.tmp 39) = _ := hf.2.1
       exact OpOk.run (v := .bool false) (W' := X) (by
        unfold execOp
        simp only [e0, e1, Sem.run_bind, run_eqGuard_agg X _ _ _ _ _ _ HgdN.out, run_neq_struct, HE1b.out X, Result.andThen_ok]
        rfl) ⟨rfl, Stay.refl _⟩
      ·exact fun _ _ _ _ hk hf => OpOk.m rfl hf.1
      ·intro ev X hT hb hk hf
       refine .inl ⟨false, hf.1, fun _ => ?_, fun h => (h rfl).elim⟩
       have e0 : ev (.tmp 5) = .bool true := hk.1
       exact OpOk.m rfl e0
      ·intro ev X hT hb hk hf
       refine .inl ⟨false, hf.2.1, fun _ => ?_, fun h => (h rfl).elim⟩
       have e0 : ev (.tmp 42) = _ := hf.1
       exact OpOk.m rfl e0
      ·intro ev X hT hb hk hf
       refine .inl ⟨true, hf.1, fun _ => ?_, fun h => (h rfl).elim⟩
       have e0 : ev (.tmp 9) = .pointer (some ⟨p9, 0, .none⟩) := hk.1
       exact OpOk.l e0 (on_blk_mul (H12.out.below hT)) hun HsXe.out
      ·intro ev X hT hb hk hf
       refine .inl ⟨true, hf.1, fun _ => ?_, fun h => (h rfl).elim⟩
       exact OpOk.c (by simp [execOp, resolve, invoke, hb.1, hb.2.1, go_sem]) (hk0.out X)
      ·intro ev X hT hb hk hf
       refine .inl ⟨true, hf.2.2.1, fun _ => ?_, fun h => (h rfl).elim⟩
       have e0 : ev (.tmp 44) = _ := hf.1
       have e1 : ev (.tmp 45) = _ := hf.2.1
       exact OpOk.run (v := .bool true) (W' := X) (by
        unfold execOp
        simp only [e0, e1, Sem.run_bind, run_eqGuard_agg X _ _ _ _ _ _ HgdN.out, run_eql_struct, HE2b.out X, Result.andThen_ok]
        rfl) ⟨rfl, Stay.refl _⟩
      ·intro ev X hT hb hk hf
       refine .inl ⟨false, hf.2.2.1, fun _ => ?_, fun h => (h rfl).elim⟩
       have e0 : ev (.tmp 43) = _ := hf.1
       have e1 : ev (.tmp 46) = _ := hf.2.1
       exact OpOk.r (by simp [execOp, e0, e1, hb, hb.1, hb.2.1, hb.2.2, go_sem])
      ·intro ev X hT hb hk hf
       have e0 : ev (.tmp 41) = _ := hf.1
       have e1 : ev (.tmp 47) = _ := hf.2.1
       exact OpOk.r (by simp [execOp, e0, e1, hb, hb.1, hb.2.1, hb.2.2, go_sem])
     intro w13 hX
     rintro _ rfl _ rfl _ rfl _ rfl _ rfl _ rfl _ rfl _ rfl _ rfl _ rfl _ rfl _ rfl _ rfl
     obtain ⟨H13, S13⟩ := nx H12.out S12.out hX
     clear hX H12 S12
     go_wp2
     refine Rest.done ?_
     have gR := on_blk_mul H13.out.right.right.right.right.right
     have HB := hide (all_below H13.out.right.right.right.right.right.right.right S13.out)
     go_wp2_with (first
      | (refine wS gR HsZm.out rfl HoZm.out ?_)
      | (refine b0_arm rfl 31 rfl Zm (Hb0.out _) ?_))
     exact retT Tryd.results22 gR hum HsZm.out rfl (.bool false) (by rw [HF.out]) HB.out (by omega)
    ·skip
     as_aux_lemma =>
     have HF := hide (HOk.out hr (fun h => hx h.2))
     have HE2b := hide (fun X => (hE2.out X).trans (by rw [decide_eq_false hx]))
     clear hr hx
     refine wp_region_vsg [isV (.agg Xe), isV (.agg Xe), isV (.agg XX), isV (.agg Aa), isV (.bool false), isV (.bool false), isV (.bool true), isV (.bool true), isV (.agg Xe), isV (.agg Zn), isV (.bool false), isV (.bool false), isV (.bool false)]
      (by kernel_rfl) (by kernel_rfl) rfl ?keep ?todo ?r29
     case keep => repeat (first | exact trivial | refine ⟨Keep.isV _, ?_⟩)
     case todo =>
      refine ⟨?_, ?_, ?_, ?_, ?_, ?_, ?_, ?_, ?_, ?_, ?_, ?_, ?_, trivial⟩
      ·exact fun ev X hT hb hk hf => OpOk.l (x := .tmp 9) hk.1 (on_blk_mul (H12.out.below hT)) hun HsXe.out
      ·exact fun ev X hT hb hk hf => OpOk.l (x := .tmp 9) hk.1 (on_blk_mul (H12.out.below hT)) hun HsXe.out
      ·intro ev X hT hb hk hf
       have e0 : ev (.tmp 36) = _ := hf.1
       have e1 : ev (.tmp 37) = _ := hf.2.1
       exact OpOk.c (by simp [execOp, resolve, invoke, e0, e1, hb.1, hb.2.1, go_sem]) (hk11.out X)
      ·exact fun ev X hT hb hk hf => OpOk.l (x := .tmp 8) hk.1 (on_blk_mul (H12.out.below hT).right) hun HsAa.out
      ·intro ev X hT hb hk hf
       have e0 : ev (.tmp 38) = _ := hf.1
       have e1 : ev (.tmp 39) = _ := hf.2.1
       exact OpOk.run (v := .bool false) (W' := X) (by
        unfold execOp
        simp only [e0, e1, Sem.run_bind, run_eqGuard_agg X _ _ _ _ _ _ HgdN.out, run_neq_struct, HE1b.out X, Result.andThen_ok]
        rfl) ⟨rfl, Stay.refl _⟩
      ·exact fun _ _ _ _ hk hf => OpOk.m rfl hf.1
      ·intro ev X hT hb hk hf
       refine .inl ⟨false, hf.1, fun _ => ?_, fun h => (h rfl).elim⟩
       have e0 : ev (.tmp 5) = .bool true := hk.1
       exact OpOk.m rfl e0
      ·intro ev X hT hb hk hf
       refine .inl ⟨false, hf.2.1, fun _ => ?_, fun h => (h rfl).elim⟩
       have e0 : ev (.tmp 42) = _ := hf.1
       exact OpOk.m rfl e0
      ·intro ev X hT hb hk hf
       refine .inl ⟨true, hf.1, fun _ => ?_, fun h => (h rfl).elim⟩
       have e0 : ev (.tmp 9) = .pointer (some ⟨p9, 0, .none⟩) := hk.1
       exact OpOk.l e0 (on_blk_mul (H12.out.below hT)) hun HsXe.out
      ·intro ev X hT hb hk hf
       refine .inl ⟨true, hf.1, fun _ => ?_, fun h => (h rfl).elim⟩
       exact OpOk.c (by simp [execOp, resolve, invoke, hb.1, hb.2.1, go_sem]) (hk0.out X)
      ·intro ev X hT hb hk hf
       refine .inl ⟨true, hf.2.2.1, fun _ => ?_, fun h => (h rfl).elim⟩
       have e0 : ev (.tmp 44) = _ := hf.1
       have e1 : ev (.tmp 45) = _ := hf.2.1
       exact OpOk.run (v := .bool false) (W' := X) (by
        unfold execOp
        simp only [e0, e1, Sem.run_bind, run_eqGuard_agg X _ _ _ _ _ _ HgdN.out, run_eql_struct, HE2b.out X, Result.andThen_ok]
        rfl) ⟨rfl, Stay.refl _⟩
      ·intro ev X hT hb hk hf
       refine .inl ⟨false, hf.2.2.1, fun _ => ?_, fun h => (h rfl).elim⟩
       have e0 : ev (.tmp 43) = _ := hf.1
       have e1 : ev (.tmp 46) = _ := hf.2.1
       exact OpOk.r (by simp [execOp, e0, e1, hb, hb.1, hb.2.1, hb.2.2, go_sem])
      ·intro ev X hT hb hk hf
       have e0 : ev (.tmp 41) = _ := hf.1
       have e1 : ev (.tmp 47) = _ := hf.2.1
       exact OpOk.r (by simp [execOp, e0, e1, hb, hb.1, hb.2.1, hb.2.2, go_sem])
     intro w13 hX
     rintro _ rfl _ rfl _ rfl _ rfl _ rfl _ rfl _ rfl _ rfl _ rfl _ rfl _ rfl _ rfl _ rfl
     obtain ⟨H13, S13⟩ := nx H12.out S12.out hX
     clear hX H12 S12
     go_wp2
     refine Rest.done ?_
     have hc9 := (cell_of_row w13 p9 0 Xe _ _ (on_blk_mul H13.out)).trans Hx0.out
     have hr2 := Hr2.out
     refine (Decidable.em (x % 2 = 1)).elim (fun hb => ?_) (fun hb => ?_)
     ·skip
      as_aux_lemma =>
      have hb0 := hb
      have HF2 := hide (show decW n = .tuple #[.agg Rp, .bool true] by rw [HF.out, ← HRp.out]; unfold Ed.turnD; rw [decide_eq_true hb, if_pos (by decide)])
      rw [hb0] at hr2
      clear hb hb0
      have glXe := on_blk_mul H13.out
      have glYe := on_blk_mul H13.out.right.right.right.right
      have glOn := on_blk_mul H13.out.right.right.right
      have gR := on_blk_mul H13.out.right.right.right.right.right
      have HB := hide (all_below H13.out.right.right.right.right.right.right.right S13.out)
      go_wp2_with (first
       | (refine wS gR HsRp HzRp HoRp ?_)
       | (refine wL glXe hun HsXe ?_)
       | (refine wL glYe hun HsYe ?_)
       | (refine wL glOn hun HsOn ?_)
       | (refine b3_arm rfl 31 0 1 2 _ _ _ rfl Xe Ye On Rp rfl rfl rfl (Hb1.out _) ?_))
      exact retT Tryd.results22 gR hum HsRp.out rfl (.bool true) (by rw [HF2.out]) HB.out (by omega)
     ·skip
      as_aux_lemma =>
      have hb0 : x % 2 = 0 := by omega
      have HF2 := hide (show decW n = .tuple #[.agg Rn, .bool true] by rw [HF.out, ← HRn.out]; unfold Ed.turnD; rw [decide_eq_false hb, if_neg (by decide)])
      rw [hb0] at hr2
      clear hb hb0
      have gX := on_blk_mul H13.out
      go_wp2_with (first
       | (refine wL gX hun HsXe ?_))
      clear gX
      refine (hk12.out _).mono ?_
      rintro e w14 ⟨rfl, hB⟩
      obtain ⟨H14, S14⟩ := nx H13.out S13.out hB
      clear hB H13 S13
      have H15 := hide (st0 H14.out (cs := Ne))
      have S15 := hide (S14.out.setRow (p9) Ne)
      have gW := on_blk_mul H14.out
      have glNe := on_blk_mul H15.out
      have glYe := on_blk_mul H15.out.right.right.right.right
      have glOn := on_blk_mul H15.out.right.right.right
      have gR := on_blk_mul H15.out.right.right.right.right.right
      have HB := hide (all_below H15.out.right.right.right.right.right.right.right S15.out)
      go_wp2_with (first
       | (refine wS gR HsRn HzRn HoRn ?_)
       | (refine wS gW HsNe.out (HzXe.out.symm.trans HzNe.out) HoNe.out ?_)
       | (refine wL glNe hun HsNe ?_)
       | (refine wL glYe hun HsYe ?_)
       | (refine wL glOn hun HsOn ?_)
       | (refine b3_arm rfl 31 0 1 2 _ _ _ rfl Ne Ye On Rn rfl rfl rfl (Hb2.out _) ?_))
      exact retT Tryd.results22 gR hum HsRn.out rfl (.bool true) (by rw [HF2.out]) HB.out (by omega)
   ·skip
    as_aux_lemma =>
    have HF := hide (HOk.out hr (fun h => nomatch h.1))
    clear hr
    refine wp_region_vsg [isV (.agg Xe), isV (.agg Xe), isV (.agg XX), isV (.agg Aa), isV (.bool false), isV (.bool false), isV (.bool false), isV (.bool false), isV (undef), isV (undef), isV (undef), isV (.bool false), isV (.bool false)]
     (by kernel_rfl) (by kernel_rfl) rfl ?keep ?todo ?r30
    case keep => repeat (first | exact trivial | refine ⟨Keep.isV _, ?_⟩)
    case todo =>
     refine ⟨?_, ?_, ?_, ?_, ?_, ?_, ?_, ?_, ?_, ?_, ?_, ?_, ?_, trivial⟩
     ·exact fun ev X hT hb hk hf => OpOk.l (x := .tmp 9) hk.1 (on_blk_mul (H12.out.below hT)) hun HsXe.out
     ·exact fun ev X hT hb hk hf => OpOk.l (x := .tmp 9) hk.1 (on_blk_mul (H12.out.below hT)) hun HsXe.out
     ·intro ev X hT hb hk hf
      have e0 : ev (.tmp 36) = _ := hf.1
      have e1 : ev (.tmp 37) = _ := hf.2.1
      exact OpOk.c (by simp [execOp, resolve, invoke, e0, e1, hb.1, hb.2.1, go_sem]) (hk11.out X)
     ·exact fun ev X hT hb hk hf => OpOk.l (x := .tmp 8) hk.1 (on_blk_mul (H12.out.below hT).right) hun HsAa.out
     ·intro ev X hT hb hk hf
      have e0 : ev (.tmp 38) = _ := hf.1
      have e1 : ev (.tmp 39) = _ := hf.2.1
      exact OpOk.run (v := .bool false) (W' := X) (by
       unfold execOp
       simp only [e0, e1, Sem.run_bind, run_eqGuard_agg X _ _ _ _ _ _ HgdN.out, run_neq_struct, HE1b.out X, Result.andThen_ok]
       rfl) ⟨rfl, Stay.refl _⟩
     ·exact fun _ _ _ _ hk hf => OpOk.m rfl hf.1
     ·intro ev X hT hb hk hf
      refine .inl ⟨false, hf.1, fun _ => ?_, fun h => (h rfl).elim⟩
      have e0 : ev (.tmp 5) = .bool false := hk.1
      exact OpOk.m rfl e0
     ·intro ev X hT hb hk hf
      refine .inl ⟨false, hf.2.1, fun _ => ?_, fun h => (h rfl).elim⟩
      have e0 : ev (.tmp 42) = _ := hf.1
      exact OpOk.m rfl e0
     ·exact fun ev X hT hb hk hf => .inl ⟨false, hf.1, fun h => (nomatch h), fun _ => rfl⟩
     ·exact fun ev X hT hb hk hf => .inl ⟨false, hf.1, fun h => (nomatch h), fun _ => rfl⟩
     ·exact fun ev X hT hb hk hf => .inl ⟨false, hf.2.2.1, fun h => (nomatch h), fun _ => rfl⟩
     ·intro ev X hT hb hk hf
      refine .inl ⟨false, hf.2.2.1, fun _ => ?_, fun h => (h rfl).elim⟩
      have e0 : ev (.tmp 43) = _ := hf.1
      have e1 : ev (.tmp 46) = _ := hf.2.1
      exact OpOk.r (by simp [execOp, e0, e1, hb, hb.1, hb.2.1, hb.2.2, go_sem])
     ·intro ev X hT hb hk hf
      have e0 : ev (.tmp 41) = _ := hf.1
      have e1 : ev (.tmp 47) = _ := hf.2.1
      exact OpOk.r (by simp [execOp, e0, e1, hb, hb.1, hb.2.1, hb.2.2, go_sem])
    intro w13 hX
    rintro _ rfl _ rfl _ rfl _ rfl _ rfl _ rfl _ rfl _ rfl _ rfl _ rfl _ rfl _ rfl _ rfl
    obtain ⟨H13, S13⟩ := nx H12.out S12.out hX
    clear hX H12 S12
    go_wp2
    refine Rest.done ?_
    have hc9 := (cell_of_row w13 p9 0 Xe _ _ (on_blk_mul H13.out)).trans Hx0.out
    have hr2 := Hr2.out
    refine (Decidable.em (x % 2 = 1)).elim (fun hb => ?_) (fun hb => ?_)
    ·skip
     as_aux_lemma =>
     have hb0 := hb
     have HF2 := hide (show decW n = .tuple #[.agg Rn, .bool true] by rw [HF.out, ← HRn.out]; unfold Ed.turnD; rw [decide_eq_true hb, if_neg (by decide)])
     rw [hb0] at hr2
     clear hb hb0
     have gX := on_blk_mul H13.out
     go_wp2_with (first
      | (refine wL gX hun HsXe ?_))
     clear gX
     refine (hk12.out _).mono ?_
     rintro e w14 ⟨rfl, hB⟩
     obtain ⟨H14, S14⟩ := nx H13.out S13.out hB
     clear hB H13 S13
     have H15 := hide (st0 H14.out (cs := Ne))
     have S15 := hide (S14.out.setRow (p9) Ne)
     have gW := on_blk_mul H14.out
     have glNe := on_blk_mul H15.out
     have glYe := on_blk_mul H15.out.right.right.right.right
     have glOn := on_blk_mul H15.out.right.right.right
     have gR := on_blk_mul H15.out.right.right.right.right.right
     have HB := hide (all_below H15.out.right.right.right.right.right.right.right S15.out)
     go_wp2_with (first
      | (refine wS gR HsRn HzRn HoRn ?_)
      | (refine wS gW HsNe.out (HzXe.out.symm.trans HzNe.out) HoNe.out ?_)
      | (refine wL glNe hun HsNe ?_)
      | (refine wL glYe hun HsYe ?_)
      | (refine wL glOn hun HsOn ?_)
      | (refine b3_arm rfl 31 0 1 2 _ _ _ rfl Ne Ye On Rn rfl rfl rfl (Hb2.out _) ?_))
     exact retT Tryd.results22 gR hum HsRn.out rfl (.bool true) (by rw [HF2.out]) HB.out (by omega)
    ·skip
     as_aux_lemma =>
     have hb0 : x % 2 = 0 := by omega
     have HF2 := hide (show decW n = .tuple #[.agg Rp, .bool true] by rw [HF.out, ← HRp.out]; unfold Ed.turnD; rw [decide_eq_false hb, if_pos (by decide)])
     rw [hb0] at hr2
     clear hb hb0
     have glXe := on_blk_mul H13.out
     have glYe := on_blk_mul H13.out.right.right.right.right
     have glOn := on_blk_mul H13.out.right.right.right
     have gR := on_blk_mul H13.out.right.right.right.right.right
     have HB := hide (all_below H13.out.right.right.right.right.right.right.right S13.out)
     go_wp2_with (first
      | (refine wS gR HsRp HzRp HoRp ?_)
      | (refine wL glXe hun HsXe ?_)
      | (refine wL glYe hun HsYe ?_)
      | (refine wL glOn hun HsOn ?_)
      | (refine b3_arm rfl 31 0 1 2 _ _ _ rfl Xe Ye On Rp rfl rfl rfl (Hb1.out _) ?_))
     exact retT Tryd.results22 gR hum HsRp.out rfl (.bool true) (by rw [HF2.out]) HB.out (by omega)
end Cv
end Go.Proofs.YtbplbdnofobbiaaDoor
