/- LAID TOGETHER: Cv14, Cv15, Cv16. -/
import Derived.Test.YtbplbdnofobbiaaDoorCv11
import Derived.Test.YtbplbdnofobbiaaDoorCv10
set_option linter.unusedVariables false
set_option linter.unusedSimpArgs false
set_option maxRecDepth 100000
set_option maxHeartbeats 8000000
namespace Go.Proofs.YtbplbdnofobbiaaDoor
namespace Cv
open Fe
open Go.ChangeShapes Go.WideShapes Go.ChangeAt Go.RowKit
theorem tpInfo (s : Ed.Tp) : (Tryd.prog.info? 31).map (·.size) = some (tpC s).size := mInfo _ _ _
theorem tpOne (s : Ed.Tp) : (tpC s).all (·.oneCell') = true := mC_one _ _ _
theorem tpSize (s t : Ed.Tp) : (tpC s).size = (tpC t).size := mSize _ _ _ _ _ _
theorem tpZ (s : Ed.Tp) : (mC 0 0 0).size = (tpC s).size := mSize _ _ _ _ _ _
theorem mtimes_any (p : Ed.Tp) (n : Nat) (hn : n < 18446744073709551616 ^ 4) (w : World) :
  Calls Tryd.prog 24 #[.agg (tpC p), .agg (q4 n), .agg (n17 Ed.dN)] w fun e w' => e = .returned (.agg (tpC (Ed.Tp.times p n 256))) ∧ Below w.heap.size w w' := by
 have hu4 := Tryd.underlying23
 have hun := Tryd.underlying29
 have hum := Tryd.underlying31
 have hzL := eZero4
 have hzN := nZero
 have hzM := mZero
 have h0 := ((((on_all w).alloc (.cells (tpC p) 31)).alloc (.cells (q4 n) 23)).alloc (.cells (n17 Ed.dN) 29)).alloc (.cells (mC 0 0 0) 31)
 have s0 := ((((Str.refl w).alloc (.cells (tpC p) 31)).alloc (.cells (q4 n) 23)).alloc (.cells (n17 Ed.dN) 29)).alloc (.cells (mC 0 0 0) 31)
 try simp only [World.size_alloc] at h0
 have H1 := hide h0
 have S1 := hide s0
 clear h0 s0
 have Hno := hide (fun X => mnone_any X)
 have Hpl := hide (fun s t X => madd_any s t X)
 have HI := hide tpInfo
 have HO := hide tpOne
 have HZ := hide tpSize
 have HZs := hide tpZ
 have HsA := hide (tpInfo p)
 obtain ⟨HsQ0, HoQ0, HzQ0⟩ := b3 (tpInfo Ed.Tp.none) (tpOne Ed.Tp.none) (tpZ Ed.Tp.none)
 have Hcell : Hid (∀ m, m < 256 → (q4 n)[m / 64]? = some (lv (limb n (m / 64)))) := hide fun m hm => lvs_get _ _ _ (qs_get 4 n _ (by omega))
 clear hn
 obtain ⟨HsN4, HoN4, HzN4⟩ := b3 (eInfo4 n) (eOne n) (eSize 0 n)
 obtain ⟨HsDn, HoDn, HzDn⟩ := nF Ed.dN
 generalize q4 n = N4 at *
 generalize n17 Ed.dN = Dn at *
 generalize q4 0 = Z4 at *
 generalize n17 0 = Zn at *
 generalize mC 0 0 0 = Zm at *
 generalize hA : tpC p = A at *
 have HA := hide hA
 clear hA
 generalize hQ : tpC Ed.Tp.none = Q0 at *
 have HQ := hide hQ
 clear hQ
 go_enter Tryd.func24, Tryd.ntmps24
 go_wp2_with fail
 generalize (((w.alloc (.cells A 31)).alloc (.cells N4 23)).alloc (.cells Dn 29)).alloc (.cells Zm 31) = w1 at *
 refine (Hno.out _).mono ?_
 rintro e w2 ⟨rfl, hB⟩
 obtain ⟨H2, S2⟩ := nx H1.out S1.out hB
 clear hB H1 S1
 obtain ⟨gN, gM, H3, S3⟩ := newV H2.out S2.out Zm Q0 31
 go_wp2_with (first
  | (refine wS gN HsQ0 HzQ0 HoQ0 ?_))
 generalize (w2.alloc (.cells Zm 31)).setRow w2.heap.size Q0 = w3 at *
 clear gN gM H2 S2
 generalize w2.heap.size = p5 at *
 go_loopw [8] (fun i wr => ∃ k : Nat, k ≤ 256 ∧ i = .int .i64 ((k : Int) - 1) ∧ (blk p5 (.cells (tpC (Ed.Tp.times p n (256 - k))) 31 (0, 0)) * (blk (w.heap.size + 1 + 1 + 1) (.cells Zm 31 (0, 0)) * (blk (w.heap.size + 1 + 1) (.cells Dn 29 (0, 0)) * (blk (w.heap.size + 1) (.cells N4 23 (0, 0)) * (blk (w.heap.size) (.cells A 31 (0, 0)) * all w))))).on wr ∧ Str w wr) (fun i _ => (intOf i + 1).toNat)
 case atStart => exact ⟨256, by omega, rfl, by rw [show Ed.Tp.times p n (256 - 256) = Ed.Tp.none from rfl, HQ.out]; exact H3.out, S3.out⟩
 case round =>
  obtain ⟨k, hk, rfl, hX, hS2⟩ := hrel
  have H4 := hide hX
  have S4 := hide hS2
  clear hX hS2 H3 S3
  cases k with
  | zero =>
   obtain ⟨HsP, HoP, HzP⟩ := b3 (HI.out (Ed.Tp.times p n 256)) (HO.out (Ed.Tp.times p n 256)) (HZs.out (Ed.Tp.times p n 256))
   rw [show 256 - 0 = 256 from rfl] at H4
   generalize mC 0 0 0 = Zm0 at *
   generalize hP : tpC (Ed.Tp.times p n 256) = P at *
   have HP := hide hP
   clear hP
   have g0 := on_blk_mul H4.out
   have gR := on_blk_mul H4.out.right
   have HB := hide (all_below H4.out.right.right.right.right.right S4.out)
   go_wp2_with (first
    | (refine wS gR HsP HzP HoP ?_)
    | (refine wL g0 hum HsP ?_))
   exact retE Tryd.results24 gR hum HsP.out rfl (by rw [HP.out]) HB.out (by omega)
  | succ m =>
   have hm2 : m < 256 := by omega
   have hst : Ed.Tp.times p n (256 - m) = Ed.Tp.next p (n.testBit m) (Ed.Tp.add (Ed.Tp.times p n (256 - (m + 1))) (Ed.Tp.times p n (256 - (m + 1)))) := by
    conv => lhs; rw [show 256 - m = (256 - (m + 1)) + 1 by omega]
    show Ed.Tp.next p (n.testBit (255 - (256 - (m + 1)))) _ = _
    rw [show 255 - (256 - (m + 1)) = m by omega]
   have hb := bit_rem n m
   have s1 : (((m + 1 : Nat) : Int) - 1) = (m : Int) := by omega
   rw [s1]
   clear s1
   have hm4 : ((m / 64 : Nat) : Int) < 4 := by omega
   have Hst := hide hst
   have hE := Hcell.out m hm2
   clear hst
   generalize Ed.Tp.times p n (256 - (m + 1)) = s at *
   have Hp1 := hide (fun X => Hpl.out s s X)
   have Hp2 := hide (fun X => Hpl.out (s.add s) p X)
   rw [HA.out] at Hp2
   have HsP := hide (HI.out s)
   obtain ⟨HsB, HoB, HzB⟩ := b3 (HI.out (s.add s)) (HO.out (s.add s)) (HZ.out s (s.add s))
   obtain ⟨HsC, HoC, HzC⟩ := b3 (HI.out ((s.add s).add p)) (HO.out ((s.add s).add p)) (HZ.out (s.add s) ((s.add s).add p))
   generalize limb n (m / 64) = x at *
   generalize tpC s = P at *
   generalize hB : tpC (s.add s) = B at *
   generalize hC : tpC ((s.add s).add p) = C at *
   have HB := hide hB
   have HC := hide hC
   clear hB hC
   have g0 := on_blk_mul H4.out
   have gD := on_blk_mul H4.out.right.right
   go_wp2_with (first
    | (refine wL g0 hum HsP ?_)
    | (refine wL gD hun HsDn ?_))
   clear g0 gD
   refine (Hp1.out _).mono ?_
   rintro e w5 ⟨rfl, hB⟩
   obtain ⟨H5, S5⟩ := nx H4.out S4.out hB
   clear hB H4 S4
   have H6 := hide (st0 H5.out (cs := B))
   have S6 := hide (S5.out.setRow (p5) B)
   have gW := on_blk_mul H5.out
   have g0 := on_blk_mul H6.out
   have gA := on_blk_mul H6.out.right.right.right.right
   have gD := on_blk_mul H6.out.right.right
   have hcell := (cell_of_row (w5.setRow p5 B) (w.heap.size + 1) (m / 64) _ _ _ (on_blk_mul H6.out.right.right.right)).trans hE
   by_cases ht : n.testBit m = true
   ·rw [ht] at hb
    have HN := hide (show Ed.Tp.times p n (256 - m) = (s.add s).add p by rw [Hst.out, ht]; exact if_pos rfl)
    clear ht hE
    go_wp2_with (first
     | (refine wS gW HsB HzB HoB ?_)
     | (refine wL g0 hum HsB ?_)
     | (refine wL gA hum HsA ?_)
     | (refine wL gD hun HsDn ?_))
    clear hcell gA gD
    generalize w5.setRow p5 B = w6 at *
    clear gW H5 S5 g0
    refine (Hp2.out _).mono ?_
    rintro e w7 ⟨rfl, hB⟩
    obtain ⟨H7, S7⟩ := nx H6.out S6.out hB
    clear hB H6 S6
    have H8 := hide (st0 H7.out (cs := C))
    have S8 := hide (S7.out.setRow (p5) C)
    have gW := on_blk_mul H7.out
    go_wp2_with (first
     | (refine wS gW HsC HzC HoC ?_))
    exact ⟨⟨m, by omega, rfl, by rw [HN.out, HC.out]; exact H8.out, S8.out⟩, by simp [intOf]⟩
   ·have hf : n.testBit m = false := by simpa using ht
    rw [hf] at hb
    have HN := hide (show Ed.Tp.times p n (256 - m) = s.add s by rw [Hst.out, hf]; exact if_neg (by decide))
    clear ht hE hf
    go_wp2_with (first
     | (refine wS gW HsB HzB HoB ?_))
    exact ⟨⟨m, by omega, rfl, by rw [HN.out, HB.out]; exact H6.out, S6.out⟩, by simp [intOf]⟩
theorem msame_nat (px py pz qx qy qz : Nat) (bpx : px < P5) (bpy : py < P5) (bpz : pz < P5) (bqx : qx < P5) (bqy : qy < P5) (bqz : qz < P5) (w : World) :
  Calls Tryd.prog 19 #[.agg (mC px py pz), .agg (mC qx qy qz)] w fun e w' => e = .returned (.bool (decide (px * qz % P5 = qx * pz % P5) && decide (py * qz % P5 = qy * pz % P5))) ∧ Below w.heap.size w w' := by
 have hum := Tryd.underlying31
 have hun := Tryd.underlying29
 have hzM := mZero
 have hzN := nZero
 have h0 := ((on_all w).alloc (.cells (mC px py pz) 31)).alloc (.cells (mC qx qy qz) 31)
 have s0 := ((Str.refl w).alloc (.cells (mC px py pz) 31)).alloc (.cells (mC qx qy qz) 31)
 try simp only [World.size_alloc] at h0
 have H1 := hide h0
 have S1 := hide s0
 clear h0 s0
 have ka0 := fun X => rmul5 px qz bpx bqz X
 have ba : px * qz % P5 < P5 := Nat.mod_lt _ P5_pos
 generalize px * qz % P5 = a at *
 have hka := hide ka0
 clear ka0
 have kb0 := fun X => rmul5 qx pz bqx bpz X
 have bb : qx * pz % P5 < P5 := Nat.mod_lt _ P5_pos
 generalize qx * pz % P5 = b at *
 have hkb := hide kb0
 clear kb0
 have kc0 := fun X => rmul5 py qz bpy bqz X
 have bc : py * qz % P5 < P5 := Nat.mod_lt _ P5_pos
 generalize py * qz % P5 = c at *
 have hkc := hide kc0
 clear kc0
 have kd0 := fun X => rmul5 qy pz bqy bpz X
 have bd : qy * pz % P5 < P5 := Nat.mod_lt _ P5_pos
 generalize qy * pz % P5 = d at *
 have hkd := hide kd0
 clear kd0
 have HgdN : Hid (Tryd.prog.eqGuardType Tryd.prog.depth 29 = false) := hide (by kernel_rfl)
 have hE1 := hide (fun X => eq_n17 X 9998 a b (lt255 ba) (lt255 bb))
 have hE2 := hide (fun X => eq_n17 X 9998 c d (lt255 bc) (lt255 bd))
 generalize decide (a = b) = r1 at *
 generalize decide (c = d) = r2 at *
 obtain ⟨HsPP, HoPP, HzPP⟩ := b3 (mInfo px py pz) (mC_one px py pz) (mSize 0 0 0 px py pz)
 have HpPP_0 := hide (mC_x px py pz)
 have HpPP_17 := hide (mC_y px py pz)
 have HpPP_34 := hide (mC_z px py pz)
 obtain ⟨HsQQ, HoQQ, HzQQ⟩ := b3 (mInfo qx qy qz) (mC_one qx qy qz) (mSize 0 0 0 qx qy qz)
 have HpQQ_0 := hide (mC_x qx qy qz)
 have HpQQ_17 := hide (mC_y qx qy qz)
 have HpQQ_34 := hide (mC_z qx qy qz)
 obtain ⟨HsPX, HoPX, HzPX⟩ := nF px
 obtain ⟨HsPY, HoPY, HzPY⟩ := nF py
 obtain ⟨HsPZ, HoPZ, HzPZ⟩ := nF pz
 obtain ⟨HsQX, HoQX, HzQX⟩ := nF qx
 obtain ⟨HsQY, HoQY, HzQY⟩ := nF qy
 obtain ⟨HsQZ, HoQZ, HzQZ⟩ := nF qz
 obtain ⟨HsVa, HoVa, HzVa⟩ := nF a
 obtain ⟨HsVb, HoVb, HzVb⟩ := nF b
 obtain ⟨HsVc, HoVc, HzVc⟩ := nF c
 obtain ⟨HsVd, HoVd, HzVd⟩ := nF d
 clear ba bb bc bd bpx bpy bpz bqx bqy bqz
 generalize mC px py pz = PP at *
 generalize mC qx qy qz = QQ at *
 generalize n17 px = PX at *
 generalize n17 py = PY at *
 generalize n17 pz = PZ at *
 generalize n17 qx = QX at *
 generalize n17 qy = QY at *
 generalize n17 qz = QZ at *
 generalize n17 a = Va at *
 generalize n17 b = Vb at *
 generalize n17 c = Vc at *
 generalize n17 d = Vd at *
 generalize mC 0 0 0 = Zm at *
 generalize n17 0 = Zn at *
 go_enter Tryd.func19, Tryd.ntmps19
 refine wp_seq_h fun K1 hK1 => ?_
 go_wp2_with fail
 refine hK1.out _ _ ?_
 clear hK1 K1
 generalize (w.alloc (.cells PP 31)).alloc (.cells QQ 31) = w1 at *
 have hcases : r1 = true ∨ r1 = false := by cases r1 <;> simp
 rcases hcases with rfl | rfl
 ·refine wp_seq_h fun K2 hK2 => ?_
  refine wp_tail 24 [isV (.pointer (some ⟨w.heap.size, 0, .none⟩)), isV (.agg PX), isV (.pointer (some ⟨w.heap.size + 1, 34, .none⟩)), isV (.agg QZ), isV (.agg Va), isV (.pointer (some ⟨w.heap.size + 1, 0, .none⟩)), isV (.agg QX), isV (.pointer (some ⟨w.heap.size, 34, .none⟩)), isV (.agg PZ), isV (.agg Vb), isV (.bool true), isV (.bool true), isV (.pointer (some ⟨w.heap.size, 17, .none⟩)), isV (.agg PY), isV (.pointer (some ⟨w.heap.size + 1, 34, .none⟩)), isV (.agg QZ), isV (.agg Vc), isV (.pointer (some ⟨w.heap.size + 1, 17, .none⟩)), isV (.agg QY), isV (.pointer (some ⟨w.heap.size, 34, .none⟩)), isV (.agg PZ), isV (.agg Vd), isV (.bool r2), isV (.bool r2)] ?keep ?todo ?r15
  case keep => repeat (first | exact trivial | refine ⟨Keep.isV _, ?_⟩)
  case todo =>
   refine ⟨?_, ?_, ?_, ?_, ?_, ?_, ?_, ?_, ?_, ?_, ?_, ?_, ?_, ?_, ?_, ?_, ?_, ?_, ?_, ?_, ?_, ?_, ?_, ?_, trivial⟩
   ·intro ev X hT hb hk hf
    have e0 : ev (.tmp 2) = .pointer (some ⟨w.heap.size, 0, .none⟩) := hk.1
    exact OpOk.r (by simp [execOp, e0, go_sem])
   ·intro ev X hT hb hk hf
    have e0 : ev (.tmp 5) = _ := hf.1
    exact OpOk.lp e0 (rowPart (on_blk_mul (H1.out.below hT).right) HpPP_0.out) hun HsPX.out
   ·intro ev X hT hb hk hf
    have e0 : ev (.tmp 3) = .pointer (some ⟨w.heap.size + 1, 0, .none⟩) := hk.1
    exact OpOk.r (by simp [execOp, e0, go_sem])
   ·intro ev X hT hb hk hf
    have e0 : ev (.tmp 7) = _ := hf.1
    exact OpOk.lp e0 (rowPart (on_blk_mul (H1.out.below hT)) HpQQ_34.out) hun HsQZ.out
   ·intro ev X hT hb hk hf
    have e0 : ev (.tmp 6) = _ := hf.1
    have e1 : ev (.tmp 8) = _ := hf.2.1
    exact OpOk.c (by simp [execOp, resolve, invoke, e0, e1, hb.1, hb.2.1, go_sem]) (hka.out X)
   ·intro ev X hT hb hk hf
    have e0 : ev (.tmp 3) = .pointer (some ⟨w.heap.size + 1, 0, .none⟩) := hk.1
    exact OpOk.r (by simp [execOp, e0, go_sem])
   ·intro ev X hT hb hk hf
    have e0 : ev (.tmp 10) = _ := hf.1
    exact OpOk.lp e0 (rowPart (on_blk_mul (H1.out.below hT)) HpQQ_0.out) hun HsQX.out
   ·intro ev X hT hb hk hf
    have e0 : ev (.tmp 2) = .pointer (some ⟨w.heap.size, 0, .none⟩) := hk.1
    exact OpOk.r (by simp [execOp, e0, go_sem])
   ·intro ev X hT hb hk hf
    have e0 : ev (.tmp 12) = _ := hf.1
    exact OpOk.lp e0 (rowPart (on_blk_mul (H1.out.below hT).right) HpPP_34.out) hun HsPZ.out
   ·intro ev X hT hb hk hf
    have e0 : ev (.tmp 11) = _ := hf.1
    have e1 : ev (.tmp 13) = _ := hf.2.1
    exact OpOk.c (by simp [execOp, resolve, invoke, e0, e1, hb.1, hb.2.1, go_sem]) (hkb.out X)
   ·intro ev X hT hb hk hf
    have e0 : ev (.tmp 9) = _ := hf.1
    have e1 : ev (.tmp 14) = _ := hf.2.1
    exact OpOk.run (v := .bool true) (W' := X) (by
     unfold execOp
     simp only [e0, e1, Sem.run_bind, run_eqGuard_agg X _ _ _ _ _ _ HgdN.out, run_eql_struct, hE1.out X, Result.andThen_ok]
     rfl) ⟨rfl, Stay.refl _⟩
   ·exact fun _ _ _ _ hk hf => OpOk.m rfl hf.1
   ·intro ev X hT hb hk hf
    refine ⟨true, hf.1, fun _ => ?_, fun h => (h rfl).elim⟩
    have e0 : ev (.tmp 2) = .pointer (some ⟨w.heap.size, 0, .none⟩) := hk.1
    exact OpOk.r (by simp [execOp, e0, go_sem])
   ·intro ev X hT hb hk hf
    refine ⟨true, hf.2.1, fun _ => ?_, fun h => (h rfl).elim⟩
    have e0 : ev (.tmp 17) = _ := hf.1
    exact OpOk.lp e0 (rowPart (on_blk_mul (H1.out.below hT).right) HpPP_17.out) hun HsPY.out
   ·intro ev X hT hb hk hf
    refine ⟨true, hf.1, fun _ => ?_, fun h => (h rfl).elim⟩
    have e0 : ev (.tmp 3) = .pointer (some ⟨w.heap.size + 1, 0, .none⟩) := hk.1
    exact OpOk.r (by simp [execOp, e0, go_sem])
   ·intro ev X hT hb hk hf
    refine ⟨true, hf.2.1, fun _ => ?_, fun h => (h rfl).elim⟩
    have e0 : ev (.tmp 19) = _ := hf.1
    exact OpOk.lp e0 (rowPart (on_blk_mul (H1.out.below hT)) HpQQ_34.out) hun HsQZ.out
   ·intro ev X hT hb hk hf
    refine ⟨true, hf.2.2.1, fun _ => ?_, fun h => (h rfl).elim⟩
    have e0 : ev (.tmp 18) = _ := hf.1
    have e1 : ev (.tmp 20) = _ := hf.2.1
    exact OpOk.c (by simp [execOp, resolve, invoke, e0, e1, hb.1, hb.2.1, go_sem]) (hkc.out X)
   ·intro ev X hT hb hk hf
    refine ⟨true, hf.1, fun _ => ?_, fun h => (h rfl).elim⟩
    have e0 : ev (.tmp 3) = .pointer (some ⟨w.heap.size + 1, 0, .none⟩) := hk.1
    exact OpOk.r (by simp [execOp, e0, go_sem])
   ·intro ev X hT hb hk hf
    refine ⟨true, hf.2.1, fun _ => ?_, fun h => (h rfl).elim⟩
    have e0 : ev (.tmp 22) = _ := hf.1
    exact OpOk.lp e0 (rowPart (on_blk_mul (H1.out.below hT)) HpQQ_17.out) hun HsQY.out
   ·intro ev X hT hb hk hf
    refine ⟨true, hf.1, fun _ => ?_, fun h => (h rfl).elim⟩
    have e0 : ev (.tmp 2) = .pointer (some ⟨w.heap.size, 0, .none⟩) := hk.1
    exact OpOk.r (by simp [execOp, e0, go_sem])
   ·intro ev X hT hb hk hf
    refine ⟨true, hf.2.1, fun _ => ?_, fun h => (h rfl).elim⟩
    have e0 : ev (.tmp 24) = _ := hf.1
    exact OpOk.lp e0 (rowPart (on_blk_mul (H1.out.below hT).right) HpPP_34.out) hun HsPZ.out
   ·intro ev X hT hb hk hf
    refine ⟨true, hf.2.2.2.1, fun _ => ?_, fun h => (h rfl).elim⟩
    have e0 : ev (.tmp 23) = _ := hf.1
    have e1 : ev (.tmp 25) = _ := hf.2.1
    exact OpOk.c (by simp [execOp, resolve, invoke, e0, e1, hb.1, hb.2.1, go_sem]) (hkd.out X)
   ·intro ev X hT hb hk hf
    refine ⟨true, hf.2.2.1, fun _ => ?_, fun h => (h rfl).elim⟩
    have e0 : ev (.tmp 21) = _ := hf.1
    have e1 : ev (.tmp 26) = _ := hf.2.1
    exact OpOk.run (v := .bool r2) (W' := X) (by
     unfold execOp
     simp only [e0, e1, Sem.run_bind, run_eqGuard_agg X _ _ _ _ _ _ HgdN.out, run_eql_struct, hE2.out X, Result.andThen_ok]
     rfl) ⟨rfl, Stay.refl _⟩
   ·intro ev X hT hb hk hf
    have e0 : ev (.tmp 16) = _ := hf.1
    have e1 : ev (.tmp 27) = _ := hf.2.1
    exact OpOk.r (by simp [execOp, e0, e1, hb, hb.1, hb.2.1, hb.2.2, go_sem])
  intro w2 hX
  rintro _ rfl _ rfl _ rfl _ rfl _ rfl _ rfl _ rfl _ rfl _ rfl _ rfl _ rfl _ rfl _ rfl _ rfl _ rfl _ rfl _ rfl _ rfl _ rfl _ rfl _ rfl _ rfl _ rfl _ rfl
  obtain ⟨H2, S2⟩ := nx H1.out S1.out hX
  clear hX H1 S1
  go_wp2
  refine Rest.done ?_
  have HB := hide (all_below H2.out.right.right S2.out)
  go_wp2_with fail
  refine hK2.out _ _ ?_
  clear hK2 K2
  go_wp2_with fail
  go_ret
  exact ⟨rfl, HB.out⟩
 ·refine wp_seq_h fun K3 hK3 => ?_
  refine wp_tail 24 [isV (.pointer (some ⟨w.heap.size, 0, .none⟩)), isV (.agg PX), isV (.pointer (some ⟨w.heap.size + 1, 34, .none⟩)), isV (.agg QZ), isV (.agg Va), isV (.pointer (some ⟨w.heap.size + 1, 0, .none⟩)), isV (.agg QX), isV (.pointer (some ⟨w.heap.size, 34, .none⟩)), isV (.agg PZ), isV (.agg Vb), isV (.bool false), isV (.bool false), isV (undef), isV (undef), isV (undef), isV (undef), isV (undef), isV (undef), isV (undef), isV (undef), isV (undef), isV (undef), isV (undef), isV (.bool false)] ?keep ?todo ?r16
  case keep => repeat (first | exact trivial | refine ⟨Keep.isV _, ?_⟩)
  case todo =>
   refine ⟨?_, ?_, ?_, ?_, ?_, ?_, ?_, ?_, ?_, ?_, ?_, ?_, ?_, ?_, ?_, ?_, ?_, ?_, ?_, ?_, ?_, ?_, ?_, ?_, trivial⟩
   ·intro ev X hT hb hk hf
    have e0 : ev (.tmp 2) = .pointer (some ⟨w.heap.size, 0, .none⟩) := hk.1
    exact OpOk.r (by simp [execOp, e0, go_sem])
   ·intro ev X hT hb hk hf
    have e0 : ev (.tmp 5) = _ := hf.1
    exact OpOk.lp e0 (rowPart (on_blk_mul (H1.out.below hT).right) HpPP_0.out) hun HsPX.out
   ·intro ev X hT hb hk hf
    have e0 : ev (.tmp 3) = .pointer (some ⟨w.heap.size + 1, 0, .none⟩) := hk.1
    exact OpOk.r (by simp [execOp, e0, go_sem])
   ·intro ev X hT hb hk hf
    have e0 : ev (.tmp 7) = _ := hf.1
    exact OpOk.lp e0 (rowPart (on_blk_mul (H1.out.below hT)) HpQQ_34.out) hun HsQZ.out
   ·intro ev X hT hb hk hf
    have e0 : ev (.tmp 6) = _ := hf.1
    have e1 : ev (.tmp 8) = _ := hf.2.1
    exact OpOk.c (by simp [execOp, resolve, invoke, e0, e1, hb.1, hb.2.1, go_sem]) (hka.out X)
   ·intro ev X hT hb hk hf
    have e0 : ev (.tmp 3) = .pointer (some ⟨w.heap.size + 1, 0, .none⟩) := hk.1
    exact OpOk.r (by simp [execOp, e0, go_sem])
   ·intro ev X hT hb hk hf
    have e0 : ev (.tmp 10) = _ := hf.1
    exact OpOk.lp e0 (rowPart (on_blk_mul (H1.out.below hT)) HpQQ_0.out) hun HsQX.out
   ·intro ev X hT hb hk hf
    have e0 : ev (.tmp 2) = .pointer (some ⟨w.heap.size, 0, .none⟩) := hk.1
    exact OpOk.r (by simp [execOp, e0, go_sem])
   ·intro ev X hT hb hk hf
    have e0 : ev (.tmp 12) = _ := hf.1
    exact OpOk.lp e0 (rowPart (on_blk_mul (H1.out.below hT).right) HpPP_34.out) hun HsPZ.out
   ·intro ev X hT hb hk hf
    have e0 : ev (.tmp 11) = _ := hf.1
    have e1 : ev (.tmp 13) = _ := hf.2.1
    exact OpOk.c (by simp [execOp, resolve, invoke, e0, e1, hb.1, hb.2.1, go_sem]) (hkb.out X)
   ·intro ev X hT hb hk hf
    have e0 : ev (.tmp 9) = _ := hf.1
    have e1 : ev (.tmp 14) = _ := hf.2.1
    exact OpOk.run (v := .bool false) (W' := X) (by
     unfold execOp
     simp only [e0, e1, Sem.run_bind, run_eqGuard_agg X _ _ _ _ _ _ HgdN.out, run_eql_struct, hE1.out X, Result.andThen_ok]
     rfl) ⟨rfl, Stay.refl _⟩
   ·exact fun _ _ _ _ hk hf => OpOk.m rfl hf.1
   ·exact fun ev X hT hb hk hf => ⟨false, hf.1, fun h => (nomatch h), fun _ => rfl⟩
   ·exact fun ev X hT hb hk hf => ⟨false, hf.2.1, fun h => (nomatch h), fun _ => rfl⟩
   ·exact fun ev X hT hb hk hf => ⟨false, hf.1, fun h => (nomatch h), fun _ => rfl⟩
   ·exact fun ev X hT hb hk hf => ⟨false, hf.2.1, fun h => (nomatch h), fun _ => rfl⟩
   ·exact fun ev X hT hb hk hf => ⟨false, hf.2.2.1, fun h => (nomatch h), fun _ => rfl⟩
   ·exact fun ev X hT hb hk hf => ⟨false, hf.1, fun h => (nomatch h), fun _ => rfl⟩
   ·exact fun ev X hT hb hk hf => ⟨false, hf.2.1, fun h => (nomatch h), fun _ => rfl⟩
   ·exact fun ev X hT hb hk hf => ⟨false, hf.1, fun h => (nomatch h), fun _ => rfl⟩
   ·exact fun ev X hT hb hk hf => ⟨false, hf.2.1, fun h => (nomatch h), fun _ => rfl⟩
   ·exact fun ev X hT hb hk hf => ⟨false, hf.2.2.2.1, fun h => (nomatch h), fun _ => rfl⟩
   ·exact fun ev X hT hb hk hf => ⟨false, hf.2.2.1, fun h => (nomatch h), fun _ => rfl⟩
   ·intro ev X hT hb hk hf
    have e0 : ev (.tmp 16) = _ := hf.1
    have e1 : ev (.tmp 27) = _ := hf.2.1
    exact OpOk.r (by simp [execOp, e0, e1, hb, hb.1, hb.2.1, hb.2.2, go_sem])
  intro w2 hX
  rintro _ rfl _ rfl _ rfl _ rfl _ rfl _ rfl _ rfl _ rfl _ rfl _ rfl _ rfl _ rfl _ rfl _ rfl _ rfl _ rfl _ rfl _ rfl _ rfl _ rfl _ rfl _ rfl _ rfl _ rfl
  obtain ⟨H2, S2⟩ := nx H1.out S1.out hX
  clear hX H1 S1
  go_wp2
  refine Rest.done ?_
  have HB := hide (all_below H2.out.right.right S2.out)
  go_wp2_with fail
  refine hK3.out _ _ ?_
  clear hK3 K3
  go_wp2_with fail
  go_ret
  exact ⟨rfl, HB.out⟩
theorem msame_any {s t : Ed.Tp} {p q : Ed.Pt} (hs : s.has p) (ht : t.has q) (w : World) :
  Calls Tryd.prog 19 #[.agg (tpC s), .agg (tpC t)] w fun e w' => e = .returned (.bool (decide (p = q))) ∧ Below w.heap.size w w' := by
 have h := msame_nat _ _ _ _ _ _ s.x.isLt s.y.isLt s.z.isLt t.x.isLt t.y.isLt t.z.isLt w
 obtain ⟨h1, h2⟩ := Ed.Pj.same hs ht
 have e1 : decide (s.x.val * t.z.val % P5 = t.x.val * s.z.val % P5) = decide (p.x = q.x) := by
  rw [Bool.eq_iff_iff, decide_eq_true_iff, decide_eq_true_iff, ← h1, ← Ed.val_mul, ← Ed.val_mul]
  exact ⟨fun h => Fin.ext h, fun h => by rw [h]⟩
 have e2 : decide (s.y.val * t.z.val % P5 = t.y.val * s.z.val % P5) = decide (p.y = q.y) := by
  rw [Bool.eq_iff_iff, decide_eq_true_iff, decide_eq_true_iff, ← h2, ← Ed.val_mul, ← Ed.val_mul]
  exact ⟨fun h => Fin.ext h, fun h => by rw [h]⟩
 have e3 : (decide (p.x = q.x) && decide (p.y = q.y)) = decide (p = q) := by
  rw [Bool.eq_iff_iff, Bool.and_eq_true, decide_eq_true_iff, decide_eq_true_iff, decide_eq_true_iff]
  exact ⟨fun h => Ed.Pt.same h.1 h.2, fun h => by rw [h]; exact ⟨rfl, rfl⟩⟩
 rw [e1, e2, e3] at h
 exact h
theorem dN_is : (P5 - 3 * ((30000 + 10555) % P5) % P5) % P5 * pwr ((4 * 30000 % P5 + 1666) % P5) (P5 - 2) 256 % P5 = Ed.dN := by decide +kernel
theorem md_any (w : World) : Calls Tryd.prog 14 #[] w fun e w' => e = .returned (.agg (n17 Ed.dN)) ∧ Below w.heap.size w w' := by
 rw [← dN_is]
 have hun := Tryd.underlying29
 have hzN := nZero
 have h0 := (on_all w).alloc (.cells (n17 0) 29)
 have s0 := (Str.refl w).alloc (.cells (n17 0) 29)
 try simp only [World.size_alloc] at h0
 have H1 := hide h0
 have S1 := hide s0
 clear h0 s0
 have q3 := hide (fun X => rsm 3 (by decide) (by decide) X)
 have q30000 := hide (fun X => rsm 30000 (by decide) (by decide) X)
 have q10555 := hide (fun X => rsm 10555 (by decide) (by decide) X)
 have q4 := hide (fun X => rsm 4 (by decide) (by decide) X)
 have q1666 := hide (fun X => rsm 1666 (by decide) (by decide) X)
 have ka0 := fun X => radd5 30000 10555 (by decide) (by decide) X
 have ba : (30000 + 10555) % P5 < P5 := Nat.mod_lt _ P5_pos
 generalize (30000 + 10555) % P5 = a at *
 have hka := hide ka0
 clear ka0
 have kb0 := fun X => rmul5 3 a (by decide) ba X
 have bb : 3 * a % P5 < P5 := Nat.mod_lt _ P5_pos
 generalize 3 * a % P5 = b at *
 have hkb := hide kb0
 clear kb0
 have kc0 := fun X => rneg_any b bb X
 have bc : (P5 - b) % P5 < P5 := Nat.mod_lt _ P5_pos
 generalize (P5 - b) % P5 = c at *
 have hkc := hide kc0
 clear kc0
 have kd0 := fun X => rmul5 4 30000 (by decide) (by decide) X
 have bd : 4 * 30000 % P5 < P5 := Nat.mod_lt _ P5_pos
 generalize 4 * 30000 % P5 = d at *
 have hkd := hide kd0
 clear kd0
 have kf0 := fun X => radd5 d 1666 bd (by decide) X
 have bf : (d + 1666) % P5 < P5 := Nat.mod_lt _ P5_pos
 generalize (d + 1666) % P5 = f at *
 have hkf := hide kf0
 clear kf0
 have kg0 := fun X => rinvert_any f bf X
 have bg : pwr f (P5 - 2) 256 < P5 := pwr_lt _ _ _
 generalize pwr f (P5 - 2) 256 = g at *
 have hkg := hide kg0
 clear kg0
 have kr0 := fun X => rmul5 c g bc bg X
 have br : c * g % P5 < P5 := Nat.mod_lt _ P5_pos
 generalize c * g % P5 = r at *
 have hkr := hide kr0
 clear kr0
 obtain ⟨HsN3, HoN3, HzN3⟩ := nF 3
 obtain ⟨HsN30, HoN30, HzN30⟩ := nF 30000
 obtain ⟨HsN10, HoN10, HzN10⟩ := nF 10555
 obtain ⟨HsN4, HoN4, HzN4⟩ := nF 4
 obtain ⟨HsN16, HoN16, HzN16⟩ := nF 1666
 obtain ⟨HsVa, HoVa, HzVa⟩ := nF a
 obtain ⟨HsVb, HoVb, HzVb⟩ := nF b
 obtain ⟨HsVc, HoVc, HzVc⟩ := nF c
 obtain ⟨HsVd, HoVd, HzVd⟩ := nF d
 obtain ⟨HsVf, HoVf, HzVf⟩ := nF f
 obtain ⟨HsVg, HoVg, HzVg⟩ := nF g
 obtain ⟨HsVr, HoVr, HzVr⟩ := nF r
 clear ba bb bc bd bf bg br
 generalize n17 3 = N3 at *
 generalize n17 30000 = N30 at *
 generalize n17 10555 = N10 at *
 generalize n17 4 = N4 at *
 generalize n17 1666 = N16 at *
 generalize n17 a = Va at *
 generalize n17 b = Vb at *
 generalize n17 c = Vc at *
 generalize n17 d = Vd at *
 generalize n17 f = Vf at *
 generalize n17 g = Vg at *
 generalize n17 r = Vr at *
 generalize n17 0 = Zn at *
 go_enter Tryd.func14, Tryd.ntmps14
 refine wp_seq_h fun K4 hK4 => ?_
 go_wp2_with fail
 refine hK4.out _ _ ?_
 clear hK4 K4
 generalize w.alloc (.cells Zn 29) = w1 at *
 refine wp_seq_h fun K5 hK5 => ?_
 refine wp_region_seq 13 [isV (.agg N3), isV (.agg N30), isV (.agg N10), isV (.agg Va), isV (.agg Vb), isV (.agg Vc), isV (.agg N4), isV (.agg N30), isV (.agg Vd), isV (.agg N16), isV (.agg Vf), isV (.agg Vg), isV (.agg Vr)]
  (by simp only [List.take_succ_cons, List.take_zero]; rfl) (by simp only [List.drop_succ_cons, List.drop_zero]; rfl) (by kernel_rfl) (by kernel_rfl) (by kernel_rfl) (by decide) rfl ?keep ?todo ?r17
 case keep => repeat (first | exact trivial | refine ⟨Keep.isV _, ?_⟩)
 case todo =>
  refine ⟨?_, ?_, ?_, ?_, ?_, ?_, ?_, ?_, ?_, ?_, ?_, ?_, ?_, trivial⟩
  ·intro ev X hT hb hk hf
   exact OpOk.c (by simp [execOp, resolve, invoke, hb.1, hb.2.1, go_sem]) (q3.out X)
  ·intro ev X hT hb hk hf
   exact OpOk.c (by simp [execOp, resolve, invoke, hb.1, hb.2.1, go_sem]) (q30000.out X)
  ·intro ev X hT hb hk hf
   exact OpOk.c (by simp [execOp, resolve, invoke, hb.1, hb.2.1, go_sem]) (q10555.out X)
  ·intro ev X hT hb hk hf
   have e0 : ev (.tmp 2) = _ := hf.1
   have e1 : ev (.tmp 3) = _ := hf.2.1
   exact OpOk.c (by simp [execOp, resolve, invoke, e0, e1, hb.1, hb.2.1, go_sem]) (hka.out X)
  ·intro ev X hT hb hk hf
   have e0 : ev (.tmp 1) = _ := hf.1
   have e1 : ev (.tmp 4) = _ := hf.2.1
   exact OpOk.c (by simp [execOp, resolve, invoke, e0, e1, hb.1, hb.2.1, go_sem]) (hkb.out X)
  ·intro ev X hT hb hk hf
   have e0 : ev (.tmp 5) = _ := hf.1
   exact OpOk.c (by simp [execOp, resolve, invoke, e0, hb.1, hb.2.1, go_sem]) (hkc.out X)
  ·intro ev X hT hb hk hf
   exact OpOk.c (by simp [execOp, resolve, invoke, hb.1, hb.2.1, go_sem]) (q4.out X)
  ·intro ev X hT hb hk hf
   exact OpOk.c (by simp [execOp, resolve, invoke, hb.1, hb.2.1, go_sem]) (q30000.out X)
  ·intro ev X hT hb hk hf
   have e0 : ev (.tmp 7) = _ := hf.1
   have e1 : ev (.tmp 8) = _ := hf.2.1
   exact OpOk.c (by simp [execOp, resolve, invoke, e0, e1, hb.1, hb.2.1, go_sem]) (hkd.out X)
  ·intro ev X hT hb hk hf
   exact OpOk.c (by simp [execOp, resolve, invoke, hb.1, hb.2.1, go_sem]) (q1666.out X)
  ·intro ev X hT hb hk hf
   have e0 : ev (.tmp 9) = _ := hf.1
   have e1 : ev (.tmp 10) = _ := hf.2.1
   exact OpOk.c (by simp [execOp, resolve, invoke, e0, e1, hb.1, hb.2.1, go_sem]) (hkf.out X)
  ·intro ev X hT hb hk hf
   have e0 : ev (.tmp 11) = _ := hf.1
   exact OpOk.c (by simp [execOp, resolve, invoke, e0, hb.1, hb.2.1, go_sem]) (hkg.out X)
  ·intro ev X hT hb hk hf
   have e0 : ev (.tmp 6) = _ := hf.1
   have e1 : ev (.tmp 12) = _ := hf.2.1
   exact OpOk.c (by simp [execOp, resolve, invoke, e0, e1, hb.1, hb.2.1, go_sem]) (hkr.out X)
 intro w2 hX
 rintro _ rfl _ rfl _ rfl _ rfl _ rfl _ rfl _ rfl _ rfl _ rfl _ rfl _ rfl _ rfl _ rfl
 obtain ⟨H2, S2⟩ := nx H1.out S1.out hX
 clear hX H1 S1
 go_wp2
 refine Rest.done ?_
 have gR := on_blk_mul H2.out
 have HB := hide (all_below H2.out.right S2.out)
 go_wp2_with (first
  | (refine wS gR HsVr HzVr HoVr ?_))
 refine hK5.out _ _ ?_
 clear hK5 K5
 go_wp2_with fail
 exact retR Tryd.results14 gR hun HsVr.out rfl HB.out (by omega)
theorem mencode_nat (ax ay az : Nat) (bax : ax < P5) (bay : ay < P5) (baz : az < P5) (w : World) :
  Calls Tryd.prog 16 #[.agg (mC ax ay az)] w fun e w' => e = .returned (.agg (zB (Ed.encN (ax * pwr az (P5 - 2) 256 % P5) (ay * pwr az (P5 - 2) 256 % P5)))) ∧ Below w.heap.size w w' := by
 have hum := Tryd.underlying31
 have hun := Tryd.underlying29
 have hub := Tryd.underlying38
 have hzM := mZero
 have hzN := nZero
 have hzB := zBZero
 have h0 := ((on_all w).alloc (.cells (mC ax ay az) 31)).alloc (.cells (zB 0) 38)
 have s0 := ((Str.refl w).alloc (.cells (mC ax ay az) 31)).alloc (.cells (zB 0) 38)
 try simp only [World.size_alloc] at h0
 have H1 := hide h0
 have S1 := hide s0
 clear h0 s0
 have k1 := fun X => rinvert_any az baz X
 have bi : pwr az (P5 - 2) 256 < P5 := pwr_lt _ _ _
 generalize pwr az (P5 - 2) 256 = iv at *
 have k2 := fun X => rmul5 ax iv bax bi X
 have bx : ax * iv % P5 < P5 := Nat.mod_lt _ P5_pos
 generalize ax * iv % P5 = x at *
 have k3 := fun X => rmul5 ay iv bay bi X
 have bY : ay * iv % P5 < P5 := Nat.mod_lt _ P5_pos
 generalize ay * iv % P5 = y at *
 have k4 := fun X => bytes_any y (lt255 bY) X
 have ht := tB_half y (lt255 bY)
 have hup := bl_up y (lt255 bY)
 have hcl := zB_cell y (by have : 256 ^ 32 = 2 * 2 ^ 255 := by decide +kernel
                           have := lt255 bY
                           omega)
 have hv : (vb (UInt8.ofNat (tB y))) = .int .u8 ((tB y : Nat) : Int) := by unfold vb; rw [UInt8.toNat_ofNat', Nat.mod_eq_of_lt (by omega)]
 have hv2 : (vb (UInt8.ofNat (tB y + 128))) = .int .u8 (((tB y : Nat) : Int) + 128) := by unfold vb; rw [UInt8.toNat_ofNat', Nat.mod_eq_of_lt (by omega)]; rfl
 have HSet : Hid (∀ h : x % 2 = 1, (zB y).setIfInBounds 31 (.int .u8 (((tB y : Nat) : Int) + 128)) = zB (Ed.encN x y)) := hide fun h => by
  rw [← hv2, show Ed.encN x y = y + 2 ^ 255 from if_pos h]; unfold zB; rw [zb_set, hup]
 have HN0 := hide (fun h : ¬ x % 2 = 1 => show Ed.encN x y = y from if_neg h)
 have Hx0 := hide (show (n17 x)[0]? = some (nv (dg x 0)) from dvs_get _ _ _ (ds_get 17 x 0 (by decide)))
 have Hr2 := hide (show ((dg x 0 : Nat) : Int).tmod 2 = ((x % 2 : Nat) : Int) by
  rw [Int.tmod_eq_emod_of_nonneg (by omega)]; unfold dg; rw [Nat.pow_zero, Nat.div_one]; omega)
 rw [hv] at hcl
 have Hcl := hide hcl
 have Ht := hide ht
 generalize tB y = tt at *
 change ∀ X, Calls _ _ _ X fun e w' => e = .returned (.agg (zB y)) ∧ Below X.heap.size X w' at k4
 have hk1 := hide k1
 have hk2 := hide k2
 have hk3 := hide k3
 have hk4 := hide k4
 clear k1 k2 k3 k4 ht hup hcl hv hv2 bi bx bY bax bay baz
 obtain ⟨HsAA, HoAA, HzAA⟩ := b3 (mInfo ax ay az) (mC_one ax ay az) (mSize 0 0 0 ax ay az)
 have HpAA_0 := hide (mC_x ax ay az)
 have HpAA_17 := hide (mC_y ax ay az)
 have HpAA_34 := hide (mC_z ax ay az)
 obtain ⟨HsXA, HoXA, HzXA⟩ := nF ax
 obtain ⟨HsYA, HoYA, HzYA⟩ := nF ay
 obtain ⟨HsZA, HoZA, HzZA⟩ := nF az
 obtain ⟨HsIv, HoIv, HzIv⟩ := nF iv
 obtain ⟨HsXn, HoXn, HzXn⟩ := nF x
 obtain ⟨HsYn, HoYn, HzYn⟩ := nF y
 obtain ⟨HsYb, HoYb, HzYb⟩ := b3 (zBInfo y) (zBOne y) (zBSize 0 y)
 obtain ⟨HsRb, HoRb, HzRb⟩ := b3 (zBInfo (Ed.encN x y)) (zBOne (Ed.encN x y)) (zBSize 0 (Ed.encN x y))
 generalize mC ax ay az = AA at *
 generalize n17 ax = XA at *
 generalize n17 ay = YA at *
 generalize n17 az = ZA at *
 generalize n17 iv = Iv at *
 generalize n17 x = Xn at *
 generalize n17 y = Yn at *
 generalize hvYb : zB y = Yb at *
 have HYb := hide hvYb
 clear hvYb
 generalize hvRb : zB (Ed.encN x y) = Rb at *
 have HRb := hide hvRb
 clear hvRb
 generalize mC 0 0 0 = Zm at *
 generalize n17 0 = Zn at *
 generalize zB 0 = ZB at *
 go_enter Tryd.func16, Tryd.ntmps16
 refine wp_seq_h fun K1 hK1 => ?_
 go_wp2_with fail
 refine hK1.out _ _ ?_
 clear hK1 K1
 generalize (w.alloc (.cells AA 31)).alloc (.cells ZB 38) = w1 at *
 refine wp_seq_h fun K2 hK2 => ?_
 refine wp_region_seq 4 [isV (.pointer (some ⟨w.heap.size, 34, .none⟩)), isV (.agg ZA), isV (.agg Iv), Fresh w1.heap.size (.cells Zn 29 (0, 0))]
  (by simp only [List.take_succ_cons, List.take_zero]; rfl) (by simp only [List.drop_succ_cons, List.drop_zero]; rfl) (by kernel_rfl) (by kernel_rfl) (by kernel_rfl) (by decide) rfl ?keep ?todo ?r18
 case keep => exact ⟨Keep.isV _, Keep.isV _, Keep.isV _, Fresh.keep, trivial⟩
 case todo =>
  refine ⟨?_, ?_, ?_, ?_, trivial⟩
  ·intro ev X hT hb hk hf
   have e0 : ev (.tmp 1) = .pointer (some ⟨w.heap.size, 0, .none⟩) := hk.1
   exact OpOk.r (by simp [execOp, e0, go_sem])
  ·intro ev X hT hb hk hf
   have e0 : ev (.tmp 6) = _ := hf.1
   exact OpOk.lp e0 (rowPart (on_blk_mul (H1.out.below hT).right) HpAA_34.out) hun HsZA.out
  ·intro ev X hT hb hk hf
   have e0 : ev (.tmp 7) = _ := hf.1
   exact OpOk.c (by simp [execOp, resolve, invoke, e0, hb.1, hb.2.1, go_sem]) (hk1.out X)
  ·intro ev X hT hb hk hf
   exact OpOk.al hT.size (by simp [execOp, hzN, go_sem])
 intro w2 hX
 rintro _ rfl _ rfl _ rfl _ ⟨g3, rfl, hgg3, hcg3⟩
 have H2 := hide (on_fresh H1.out hX hgg3 hcg3)
 have S2 := hide (S1.out.trans (Str.below hX))
 clear hX H1 S1 hgg3 hcg3
 go_wp2
 refine Rest.done ?_
 have H3 := hide (st0 H2.out (cs := Iv))
 have S3 := hide (S2.out.setRow (g3) Iv)
 have gW := on_blk_mul H2.out
 go_wp2_with (first
  | (refine wS gW HsIv HzIv HoIv ?_))
 refine hK2.out _ _ ?_
 clear hK2 K2
 generalize w2.setRow (g3) Iv = w3 at *
 clear gW H2 S2
 refine wp_seq_h fun K3 hK3 => ?_
 refine wp_region_seq 5 [isV (.pointer (some ⟨w.heap.size, 0, .none⟩)), isV (.agg XA), isV (.agg Iv), isV (.agg Xn), Fresh w3.heap.size (.cells Zn 29 (0, 0))]
  (by simp only [List.take_succ_cons, List.take_zero]; rfl) (by simp only [List.drop_succ_cons, List.drop_zero]; rfl) (by kernel_rfl) (by kernel_rfl) (by kernel_rfl) (by decide) rfl ?keep ?todo ?r19
 case keep => exact ⟨Keep.isV _, Keep.isV _, Keep.isV _, Keep.isV _, Fresh.keep, trivial⟩
 case todo =>
  refine ⟨?_, ?_, ?_, ?_, ?_, trivial⟩
  ·intro ev X hT hb hk hf
   have e0 : ev (.tmp 1) = .pointer (some ⟨w.heap.size, 0, .none⟩) := hk.1
   exact OpOk.r (by simp [execOp, e0, go_sem])
  ·intro ev X hT hb hk hf
   have e0 : ev (.tmp 9) = _ := hf.1
   exact OpOk.lp e0 (rowPart (on_blk_mul (H3.out.below hT).right.right) HpAA_0.out) hun HsXA.out
  ·exact fun ev X hT hb hk hf => OpOk.l (x := .tmp 3) hk.1 (on_blk_mul (H3.out.below hT)) hun HsIv.out
  ·intro ev X hT hb hk hf
   have e0 : ev (.tmp 10) = _ := hf.1
   have e1 : ev (.tmp 11) = _ := hf.2.1
   exact OpOk.c (by simp [execOp, resolve, invoke, e0, e1, hb.1, hb.2.1, go_sem]) (hk2.out X)
  ·intro ev X hT hb hk hf
   exact OpOk.al hT.size (by simp [execOp, hzN, go_sem])
 intro w4 hX
 rintro _ rfl _ rfl _ rfl _ rfl _ ⟨g4, rfl, hgg4, hcg4⟩
 have H4 := hide (on_fresh H3.out hX hgg4 hcg4)
 have S4 := hide (S3.out.trans (Str.below hX))
 clear hX H3 S3 hgg4 hcg4
 go_wp2
 refine Rest.done ?_
 have H5 := hide (st0 H4.out (cs := Xn))
 have S5 := hide (S4.out.setRow (g4) Xn)
 have gW := on_blk_mul H4.out
 go_wp2_with (first
  | (refine wS gW HsXn HzXn HoXn ?_))
 refine hK3.out _ _ ?_
 clear hK3 K3
 generalize w4.setRow (g4) Xn = w5 at *
 clear gW H4 S4
 refine wp_seq_h fun K4 hK4 => ?_
 refine wp_region_seq 6 [isV (.pointer (some ⟨w.heap.size, 17, .none⟩)), isV (.agg YA), isV (.agg Iv), isV (.agg Yn), isV (.agg Yb), Fresh w5.heap.size (.cells ZB 38 (0, 0))]
  (by simp only [List.take_succ_cons, List.take_zero]; rfl) (by simp only [List.drop_succ_cons, List.drop_zero]; rfl) (by kernel_rfl) (by kernel_rfl) (by kernel_rfl) (by decide) rfl ?keep ?todo ?r20
 case keep => exact ⟨Keep.isV _, Keep.isV _, Keep.isV _, Keep.isV _, Keep.isV _, Fresh.keep, trivial⟩
 case todo =>
  refine ⟨?_, ?_, ?_, ?_, ?_, ?_, trivial⟩
  ·intro ev X hT hb hk hf
   have e0 : ev (.tmp 1) = .pointer (some ⟨w.heap.size, 0, .none⟩) := hk.1
   exact OpOk.r (by simp [execOp, e0, go_sem])
  ·intro ev X hT hb hk hf
   have e0 : ev (.tmp 13) = _ := hf.1
   exact OpOk.lp e0 (rowPart (on_blk_mul (H5.out.below hT).right.right.right) HpAA_17.out) hun HsYA.out
  ·exact fun ev X hT hb hk hf => OpOk.l (x := .tmp 3) hk.1 (on_blk_mul (H5.out.below hT).right) hun HsIv.out
  ·intro ev X hT hb hk hf
   have e0 : ev (.tmp 14) = _ := hf.1
   have e1 : ev (.tmp 15) = _ := hf.2.1
   exact OpOk.c (by simp [execOp, resolve, invoke, e0, e1, hb.1, hb.2.1, go_sem]) (hk3.out X)
  ·intro ev X hT hb hk hf
   have e0 : ev (.tmp 16) = _ := hf.1
   exact OpOk.c (by simp [execOp, resolve, invoke, e0, hb.1, hb.2.1, go_sem]) (hk4.out X)
  ·intro ev X hT hb hk hf
   exact OpOk.al hT.size (by simp [execOp, hzB, go_sem])
 intro w6 hX
 rintro _ rfl _ rfl _ rfl _ rfl _ rfl _ ⟨g5, rfl, hgg5, hcg5⟩
 have H6 := hide (on_fresh H5.out hX hgg5 hcg5)
 have S6 := hide (S5.out.trans (Str.below hX))
 clear hX H5 S5 hgg5 hcg5
 go_wp2
 refine Rest.done ?_
 have H7 := hide (st0 H6.out (cs := Yb))
 have S7 := hide (S6.out.setRow (g5) Yb)
 have gW := on_blk_mul H6.out
 go_wp2_with (first
  | (refine wS gW HsYb HzYb HoYb ?_))
 refine hK4.out _ _ ?_
 clear hK4 K4
 generalize w6.setRow (g5) Yb = w7 at *
 clear gW H6 S6
 have hc4 := (cell_of_row w7 g4 0 Xn _ _ (on_blk_mul H7.out.right)).trans Hx0.out
 have hr2 := Hr2.out
 refine (Decidable.em (x % 2 = 1)).elim (fun hb => ?_) (fun hb => ?_)
 ·rw [hb] at hr2
  have hst := SP.on.setCell (i := 31) H7.out (.int .u8 ((tt : Int) + 128))
  rw [HSet.out hb] at hst
  have htl := Ht.out
  have hcell := (cell_of_row w7 g5 31 Yb _ _ (on_blk_mul H7.out)).trans Hcl.out
  have hfr := frozen_of_row w7 g5 31 _ _ (on_blk_mul H7.out)
  clear hb
  have H8 := hide hst
  have S8 := hide (S7.out.setCell ⟨g5, 31, .none⟩ (.int .u8 ((tt : Int) + 128)))
  clear hst
  have gy := on_blk_mul H8.out
  have gR := on_blk_mul H8.out.right.right.right
  have HB := hide (all_below H8.out.right.right.right.right.right S8.out)
  go_wp2_with (first
   | (refine wS gR HsRb HzRb HoRb ?_)
   | (refine wL gy hub HsRb ?_))
  exact retR Tryd.results16 gR hub HsRb.out rfl HB.out (by omega)
 ·have hb0 : x % 2 = 0 := by omega
  rw [hb0] at hr2
  have hRY : Rb = Yb := by rw [← HYb.out, ← HRb.out, HN0.out hb]
  have HRY := hide hRY
  clear hRY hb hb0
  have gy := on_blk_mul H7.out
  have gR := on_blk_mul H7.out.right.right.right
  have HB := hide (all_below H7.out.right.right.right.right.right S7.out)
  go_wp2_with (first
   | (refine wS gR HsYb HzYb HoYb ?_)
   | (refine wL gy hub HsYb ?_))
  exact retE Tryd.results16 gR hub HsYb.out rfl (by rw [HRY.out]) HB.out (by omega)
theorem mencode_any {s : Ed.Tp} {p : Ed.Pt} (h : s.has p) (w : World) :
  Calls Tryd.prog 16 #[.agg (tpC s)] w fun e w' => e = .returned (.agg (zb (Ed.enc p))) ∧ Below w.heap.size w w' := by
 have h1 := mencode_nat _ _ _ s.x.isLt s.y.isLt s.z.isLt w
 obtain ⟨e1, e2⟩ := Ed.Pj.point h
 have f1 : s.x.val * pwr s.z.val (P5 - 2) 256 % P5 = p.x.val := by rw [← Ed.inv_val, ← Ed.val_mul, e1]
 have f2 : s.y.val * pwr s.z.val (P5 - 2) 256 % P5 = p.y.val := by rw [← Ed.inv_val, ← Ed.val_mul, e2]
 rw [f1, f2] at h1
 exact h1
theorem e8_lit : q4 E8 = #[.int .u64 18446744073709551614, .int .u64 18446744073709551615, .int .u64 18446744073709551615, .int .u64 1152921504606846975] := by
 rw [q4_lit]
 have h0 : limb E8 0 = 18446744073709551614 := by decide +kernel
 have h1 : limb E8 1 = 18446744073709551615 := by decide +kernel
 have h2 : limb E8 2 = 18446744073709551615 := by decide +kernel
 have h3 : limb E8 3 = 1152921504606846975 := by decide +kernel
 rw [h0, h1, h2, h3]; rfl
theorem qf_lit : q4 QF = #[.int .u64 18446744073709551611, .int .u64 18446744073709551615, .int .u64 18446744073709551615, .int .u64 2305843009213693951] := by
 rw [q4_lit]
 have h0 : limb QF 0 = 18446744073709551611 := by decide +kernel
 have h1 : limb QF 1 = 18446744073709551615 := by decide +kernel
 have h2 : limb QF 2 = 18446744073709551615 := by decide +kernel
 have h3 : limb QF 3 = 2305843009213693951 := by decide +kernel
 rw [h0, h1, h2, h3]; rfl
theorem run_e8 (w : World) : (Instr.build 23 #[(0, .int .u64 18446744073709551614), (1, .int .u64 18446744073709551615), (2, .int .u64 18446744073709551615), (3, .int .u64 1152921504606846975)]).run Tryd.prog w = .ok (.agg (q4 E8)) w := by
 rw [e8_lit]; kernel_rfl
theorem run_qf (w : World) : (Instr.build 23 #[(0, .int .u64 18446744073709551611), (1, .int .u64 18446744073709551615), (2, .int .u64 18446744073709551615), (3, .int .u64 2305843009213693951)]).run Tryd.prog w = .ok (.agg (q4 QF)) w := by
 rw [qf_lit]; kernel_rfl
theorem QF_lt : QF < 18446744073709551616 ^ 4 := by decide +kernel
theorem E8_lt : E8 < 18446744073709551616 ^ 4 := by decide +kernel
theorem b4c_arm {ops : Array Oper} {rest : List Oper} {o : Oper} {a : Act} {w : World} {Q : Exit → Act → World → Prop} (hw : Region.wanted o (yielded ops a.tmps) = true) (T : TypeId) (c0 c1 c2 c3 : Value) (ho : o.op = .build T #[(0, .const c0), (1, .const c1), (2, .const c2), (3, .const c3)])
  (R : Array Value) (hb : (Instr.build T #[(0, c0), (1, c1), (2, c2), (3, c3)]).run Tryd.prog w = .ok (.agg R) w) (hk : wpList Tryd.prog ops Q rest (a.put o.dst (.agg R)) w) : wpList Tryd.prog ops Q (o :: rest) a w := by
 have hr : (execOp a.eval o).run Tryd.prog w = .ok (.value (.agg R)) w := by
  unfold execOp
  rw [ho]
  simp only [List.map_toArray, List.map_cons, List.map_nil, Act.eval]
  rw [Sem.run_bind, hb]; rfl
 exact wpList_step fun _ hK => by
  rw [if_pos hw]; unfold Oper.wp; simp only [hr]; exact hK _ _ hk
theorem mroot_any (a : Nat) (ba : a < P5) (w : World) :
  Calls Tryd.prog 57 #[.agg (n17 a)] w fun e w' => e = .returned (.agg (n17 (Ed.droot a))) ∧ Below w.heap.size w w' := by
 have hdr : Ed.droot a = if root1 a * root1 a % P5 = a then root1 a else root1 a * Ed.iD % P5 := rfl
 rw [hdr]
 clear hdr
 have hun := Tryd.underlying29
 have hu4 := Tryd.underlying23
 have hzN := nZero
 have hzL := eZero4
 have h0 := ((on_all w).alloc (.cells (n17 a) 29)).alloc (.cells (n17 0) 29)
 have s0 := ((Str.refl w).alloc (.cells (n17 a) 29)).alloc (.cells (n17 0) 29)
 try simp only [World.size_alloc] at h0
 have H1 := hide h0
 have S1 := hide s0
 clear h0 s0
 have k1 : ∀ X, Calls _ _ _ X fun e w' => e = .returned (.agg (n17 (root1 a))) ∧ Below X.heap.size X w' := fun X => rpower_any a E8 (lt255 ba) E8_lt X
 have k2 : ∀ X, Calls _ _ _ X fun e w' => e = .returned (.agg (n17 Ed.iD)) ∧ Below X.heap.size X w' := fun X => rpower_any 2 QF (lt255 (by decide)) QF_lt X
 have br : root1 a < P5 := pwr_lt _ _ _
 have bi : Ed.iD < P5 := pwr_lt _ _ _
 generalize root1 a = r at *
 generalize Ed.iD = iv at *
 have k3 := fun X => rmul5 r r br br X
 have bs : r * r % P5 < P5 := Nat.mod_lt _ P5_pos
 generalize r * r % P5 = rr at *
 have k4 := fun X => rmul5 r iv br bi X
 generalize r * iv % P5 = ri at *
 have hp := hide (fun h : rr = a => show n17 (if rr = a then r else ri) = n17 r by rw [if_pos h])
 have hnn := hide (fun h : ¬ rr = a => show n17 (if rr = a then r else ri) = n17 ri by rw [if_neg h])
 have hk5 := hide (fun X => rsm 2 (by decide) (by decide) X)
 have hE := hide (fun X => eq_n17 X 9998 rr a (lt255 bs) (lt255 ba))
 have hb8 := hide run_e8
 have hbf := hide run_qf
 have HgdN : Hid (Tryd.prog.eqGuardType Tryd.prog.depth 29 = false) := hide (by kernel_rfl)
 have hk1 := hide k1
 have hk2 := hide k2
 have hk3 := hide k3
 have hk4 := hide k4
 clear k1 k2 k3 k4 br bi bs ba
 obtain ⟨HsRes, HoRes, HzRes⟩ := nF (if rr = a then r else ri)
 obtain ⟨HsAa, HoAa, HzAa⟩ := nF a
 obtain ⟨HsRr, HoRr, HzRr⟩ := nF r
 obtain ⟨HsRR, HoRR, HzRR⟩ := nF rr
 obtain ⟨HsIv, HoIv, HzIv⟩ := nF iv
 obtain ⟨HsRI, HoRI, HzRI⟩ := nF ri
 obtain ⟨HsTw, HoTw, HzTw⟩ := nF 2
 obtain ⟨HsE8v, HoE8v, HzE8v⟩ := b3 (eInfo4 E8) (eOne E8) (eSize 0 E8)
 obtain ⟨HsQFv, HoQFv, HzQFv⟩ := b3 (eInfo4 QF) (eOne QF) (eSize 0 QF)
 generalize n17 (if rr = a then r else ri) = Res at *
 generalize n17 a = Aa at *
 generalize n17 r = Rr at *
 generalize n17 rr = RR at *
 generalize n17 iv = Iv at *
 generalize n17 ri = RI at *
 generalize n17 2 = Tw at *
 generalize q4 E8 = E8v at *
 generalize q4 QF = QFv at *
 generalize n17 0 = Zn at *
 generalize q4 0 = Z4 at *
 go_enter Tryd.func57, Tryd.ntmps57
 refine wp_seq_h fun K5 hK5 => ?_
 go_wp2_with fail
 refine hK5.out _ _ ?_
 clear hK5 K5
 generalize (w.alloc (.cells Aa 29)).alloc (.cells Zn 29) = w1 at *
 refine wp_seq_h fun K6 hK6 => ?_
 refine wp_region_seq 4 [isV (.agg Aa), isV (.agg E8v), isV (.agg Rr), Fresh w1.heap.size (.cells Zn 29 (0, 0))]
  (by simp only [List.take_succ_cons, List.take_zero]; rfl) (by simp only [List.drop_succ_cons, List.drop_zero]; rfl) (by kernel_rfl) (by kernel_rfl) (by kernel_rfl) (by decide) rfl ?keep ?todo ?r21
 case keep => exact ⟨Keep.isV _, Keep.isV _, Keep.isV _, Fresh.keep, trivial⟩
 case todo =>
  refine ⟨?_, ?_, ?_, ?_, trivial⟩
  ·exact fun ev X hT hb hk hf => OpOk.l (x := .tmp 1) hk.1 (on_blk_mul (H1.out.below hT).right) hun HsAa.out
  ·intro ev X hT hb hk hf
   exact OpOk.r (by simp [execOp, hb8.out X, hb.1])
  ·intro ev X hT hb hk hf
   have e0 : ev (.tmp 5) = _ := hf.1
   have e1 : ev (.tmp 6) = _ := hf.2.1
   exact OpOk.c (by simp [execOp, resolve, invoke, e0, e1, hb.1, hb.2.1, go_sem]) (hk1.out X)
  ·intro ev X hT hb hk hf
   exact OpOk.al hT.size (by simp [execOp, hzN, go_sem])
 intro w2 hX
 rintro _ rfl _ rfl _ rfl _ ⟨g3, rfl, hgg3, hcg3⟩
 have H2 := hide (on_fresh H1.out hX hgg3 hcg3)
 have S2 := hide (S1.out.trans (Str.below hX))
 clear hX H1 S1 hgg3 hcg3
 go_wp2
 refine Rest.done ?_
 have H3 := hide (st0 H2.out (cs := Rr))
 have S3 := hide (S2.out.setRow (g3) Rr)
 have gW := on_blk_mul H2.out
 go_wp2_with (first
  | (refine wS gW HsRr HzRr HoRr ?_))
 refine hK6.out _ _ ?_
 clear hK6 K6
 generalize w2.setRow (g3) Rr = w3 at *
 clear gW H2 S2
 go_wp2_with fail
 refine (Decidable.em (rr = a)).elim (fun hra => ?_) (fun hra => ?_)
 ·have he2 := fun X => (hE.out X).trans (by rw [decide_eq_true hra])
  have hE2 := hide he2
  have HRes := hide (hp.out hra)
  clear hra he2
  refine wp_tail 4 [isV (.agg Rr), isV (.agg Rr), isV (.agg RR), isV (.agg Aa)] ?keep ?todo ?r22
  case keep => exact ⟨Keep.isV _, Keep.isV _, Keep.isV _, Keep.isV _, trivial⟩
  case todo =>
   refine ⟨?_, ?_, ?_, ?_, trivial⟩
   ·exact fun ev X hT hb hk hf => OpOk.l (x := .tmp 3) hk.1 (on_blk_mul (H3.out.below hT)) hun HsRr.out
   ·exact fun ev X hT hb hk hf => OpOk.l (x := .tmp 3) hk.1 (on_blk_mul (H3.out.below hT)) hun HsRr.out
   ·intro ev X hT hb hk hf
    have e0 : ev (.tmp 8) = _ := hf.1
    have e1 : ev (.tmp 9) = _ := hf.2.1
    exact OpOk.c (by simp [execOp, resolve, invoke, e0, e1, hb.1, hb.2.1, go_sem]) (hk3.out X)
   ·exact fun ev X hT hb hk hf => OpOk.l (x := .tmp 1) hk.1 (on_blk_mul (H3.out.below hT).right.right) hun HsAa.out
  intro w4 hX
  rintro _ rfl _ rfl _ rfl _ rfl
  obtain ⟨H4, S4⟩ := nx H3.out S3.out hX
  clear hX H3 S3
  go_wp2
  refine Rest.done ?_
  have gr := on_blk_mul H4.out
  have gR := on_blk_mul H4.out.right
  have HB := hide (all_below H4.out.right.right.right S4.out)
  go_wp2_with (first
   | (refine wS gR HsRr HzRr HoRr ?_)
   | (refine eq_arm rfl _ _ _ _ rfl HgdN.out RR Aa rfl rfl true (hE2.out _) ?_)
   | (refine wL gr hun HsRr ?_))
  exact retE Tryd.results57 gR hun HsRr.out rfl (by rw [HRes.out]) HB.out (by omega)
 ·have he2 := fun X => (hE.out X).trans (by rw [decide_eq_false hra])
  have hE2 := hide he2
  have HRes := hide (hnn.out hra)
  clear hra he2
  refine wp_tail 4 [isV (.agg Rr), isV (.agg Rr), isV (.agg RR), isV (.agg Aa)] ?keep ?todo ?r23
  case keep => exact ⟨Keep.isV _, Keep.isV _, Keep.isV _, Keep.isV _, trivial⟩
  case todo =>
   refine ⟨?_, ?_, ?_, ?_, trivial⟩
   ·exact fun ev X hT hb hk hf => OpOk.l (x := .tmp 3) hk.1 (on_blk_mul (H3.out.below hT)) hun HsRr.out
   ·exact fun ev X hT hb hk hf => OpOk.l (x := .tmp 3) hk.1 (on_blk_mul (H3.out.below hT)) hun HsRr.out
   ·intro ev X hT hb hk hf
    have e0 : ev (.tmp 8) = _ := hf.1
    have e1 : ev (.tmp 9) = _ := hf.2.1
    exact OpOk.c (by simp [execOp, resolve, invoke, e0, e1, hb.1, hb.2.1, go_sem]) (hk3.out X)
   ·exact fun ev X hT hb hk hf => OpOk.l (x := .tmp 1) hk.1 (on_blk_mul (H3.out.below hT).right.right) hun HsAa.out
  intro w4 hX
  rintro _ rfl _ rfl _ rfl _ rfl
  obtain ⟨H4, S4⟩ := nx H3.out S3.out hX
  clear hX H3 S3
  go_wp2
  refine Rest.done ?_
  go_wp2_with (first
   | (refine eq_arm rfl _ _ _ _ rfl HgdN.out RR Aa rfl rfl false (hE2.out _) ?_))
  refine (hk5.out _).mono ?_
  rintro e w5 ⟨rfl, hB⟩
  obtain ⟨H5, S5⟩ := nx H4.out S4.out hB
  clear hB H4 S4
  go_wp2_with (first
   | (refine b4c_arm rfl _ _ _ _ _ rfl QFv (hbf.out _) ?_))
  refine (hk2.out _).mono ?_
  rintro e w6 ⟨rfl, hB⟩
  obtain ⟨H6, S6⟩ := nx H5.out S5.out hB
  clear hB H5 S5
  obtain ⟨gN, gM, H7, S7⟩ := newV H6.out S6.out Zn Iv 29
  have gL0 := on_blk_mul H7.out.right
  have gL1 := on_blk_mul H7.out
  go_wp2_with (first
   | (refine wS gN HsIv HzIv HoIv ?_)
   | (refine wL gL0 hun HsRr ?_)
   | (refine wL gL1 hun HsIv ?_))
  clear gL0 gL1
  generalize (w6.alloc (.cells Zn 29)).setRow w6.heap.size Iv = w7 at *
  clear gN gM H6 S6
  generalize w6.heap.size = p4 at *
  refine (hk4.out _).mono ?_
  rintro e w8 ⟨rfl, hB⟩
  obtain ⟨H8, S8⟩ := nx H7.out S7.out hB
  clear hB H7 S7
  have gR := on_blk_mul H8.out.right.right
  have HB := hide (all_below H8.out.right.right.right.right S8.out)
  go_wp2_with (first
   | (refine wS gR HsRI HzRI HoRI ?_))
  exact retE Tryd.results57 gR hun HsRI.out rfl (by rw [HRes.out]) HB.out (by omega)
end Cv
end Go.Proofs.YtbplbdnofobbiaaDoor
