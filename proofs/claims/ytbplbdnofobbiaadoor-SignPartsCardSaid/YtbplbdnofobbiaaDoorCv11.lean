/- the document's points: by three numbers; None, the sum, the other side. -/
import Derived.Test.YtbplbdnofobbiaaDoorGCv1
import Derived.Test.YtbplbdnofobbiaaDoorGEd
import Derived.Test.YtbplbdnofobbiaaDoorFe16
import Derived.Test.YtbplbdnofobbiaaDoorGFe17
set_option linter.unusedVariables false
set_option linter.unusedSimpArgs false
set_option maxRecDepth 100000
set_option maxHeartbeats 8000000
namespace Go.Proofs.YtbplbdnofobbiaaDoor
namespace Cv
open Fe
open Go.ChangeShapes Go.WideShapes Go.ChangeAt Go.RowKit
def mC (x y z : Nat) : Array Value := dvs (ds 17 x ++ (ds 17 y ++ ds 17 z))
theorem mC_size (x y z : Nat) : (mC x y z).size = 51 := by unfold mC; rw [dvs_size]; simp only [List.length_append, ds_len]
theorem mC_one (x y z : Nat) : (mC x y z).all (·.oneCell') = true := dvs_one _
theorem mInfo (x y z : Nat) : (Tryd.prog.info? 31).map (·.size) = some (mC x y z).size := by rw [mC_size]; kernel_rfl
theorem mSize (x y z x2 y2 z2 : Nat) : (mC x y z).size = (mC x2 y2 z2).size := by rw [mC_size, mC_size]
theorem ds_lit (n : Nat) : ds 17 n = [dg n 0, dg n 1, dg n 2, dg n 3, dg n 4, dg n 5, dg n 6, dg n 7, dg n 8, dg n 9, dg n 10, dg n 11, dg n 12, dg n 13, dg n 14, dg n 15, dg n 16] := rfl
theorem dg_0 (k : Nat) : dg 0 k = 0 := by unfold dg; rw [Nat.zero_div]
theorem mZero (w : World) : (zeroValue 31).run Tryd.prog w = .ok (.agg (mC 0 0 0)) w := by
 unfold mC
 rw [ds_lit]
 simp only [dg_0]
 kernel_rfl
theorem dvs_part (a b c : List Nat) (j : Nat) (v : Value) (h : (dvs b)[j]? = some v) : (dvs (a ++ (b ++ c)))[a.length + j]? = some v := by
 have hj : j < b.length := by
  have := (Array.getElem?_eq_some_iff.1 h).1
  rwa [dvs_size] at this
 have h2 : (b.map nv)[j]? = some v := by simpa [dvs] using h
 unfold dvs
 rw [List.getElem?_toArray, List.map_append, List.map_append, List.getElem?_append_right (by rw [List.length_map]; omega), List.length_map, Nat.add_sub_cancel_left, List.getElem?_append_left (by rw [List.length_map]; exact hj)]
 exact h2
theorem mC_x (x y z j : Nat) (v : Value) (h : (n17 x)[j]? = some v) : (mC x y z)[0 + j]? = some v := dvs_part [] (ds 17 x) _ j v h
theorem mC_y (x y z j : Nat) (v : Value) (h : (n17 y)[j]? = some v) : (mC x y z)[17 + j]? = some v := by
 have := dvs_part (ds 17 x) (ds 17 y) (ds 17 z) j v h
 rwa [ds_len] at this
theorem mC_z (x y z j : Nat) (v : Value) (h : (n17 z)[j]? = some v) : (mC x y z)[34 + j]? = some v := by
 have := dvs_part (ds 17 x ++ ds 17 y) (ds 17 z) [] j v h
 rw [List.append_nil, List.append_assoc, List.length_append, ds_len, ds_len] at this
 exact this
theorem n17_lit (n : Nat) : n17 n = #[nv (dg n 0), nv (dg n 1), nv (dg n 2), nv (dg n 3), nv (dg n 4), nv (dg n 5), nv (dg n 6), nv (dg n 7), nv (dg n 8), nv (dg n 9), nv (dg n 10), nv (dg n 11), nv (dg n 12), nv (dg n 13), nv (dg n 14), nv (dg n 15), nv (dg n 16)] := rfl
theorem mC_lit (x y z : Nat) : mC x y z = #[nv (dg x 0), nv (dg x 1), nv (dg x 2), nv (dg x 3), nv (dg x 4), nv (dg x 5), nv (dg x 6), nv (dg x 7), nv (dg x 8), nv (dg x 9), nv (dg x 10), nv (dg x 11), nv (dg x 12), nv (dg x 13), nv (dg x 14), nv (dg x 15), nv (dg x 16),
 nv (dg y 0), nv (dg y 1), nv (dg y 2), nv (dg y 3), nv (dg y 4), nv (dg y 5), nv (dg y 6), nv (dg y 7), nv (dg y 8), nv (dg y 9), nv (dg y 10), nv (dg y 11), nv (dg y 12), nv (dg y 13), nv (dg y 14), nv (dg y 15), nv (dg y 16),
 nv (dg z 0), nv (dg z 1), nv (dg z 2), nv (dg z 3), nv (dg z 4), nv (dg z 5), nv (dg z 6), nv (dg z 7), nv (dg z 8), nv (dg z 9), nv (dg z 10), nv (dg z 11), nv (dg z 12), nv (dg z 13), nv (dg z 14), nv (dg z 15), nv (dg z 16)] := rfl
theorem run_bm (x y z : Nat) (w : World) : (Instr.build 31 #[(0, .agg (n17 x)), (1, .agg (n17 y)), (2, .agg (n17 z))]).run Tryd.prog w = .ok (.agg (mC x y z)) w := by
 rw [n17_lit, n17_lit, n17_lit, mC_lit]; kernel_rfl
theorem rsm (n : Nat) (h : n < P5) (h2 : n ≤ 1152921504606846976) (X : World) : Calls Tryd.prog 46 #[.int .i64 (n : Int)] X fun e w' => e = .returned (.agg (n17 n)) ∧ Below X.heap.size X w' := by
 have := rsmall_any n h2 X
 rwa [Nat.mod_eq_of_lt h] at this
theorem lt255 {a : Nat} (h : a < P5) : a < 2 ^ 255 := by have := Ed.P5_255; omega
theorem rmul5 (a b : Nat) (ha : a < P5) (hb : b < P5) (X : World) : Calls Tryd.prog 42 #[.agg (n17 a), .agg (n17 b)] X fun e w' => e = .returned (.agg (n17 (a * b % P5))) ∧ Below X.heap.size X w' := rmul_any a b (lt255 ha) (lt255 hb) X
theorem radd5 (a b : Nat) (ha : a < P5) (hb : b < P5) (X : World) : Calls Tryd.prog 44 #[.agg (n17 a), .agg (n17 b)] X fun e w' => e = .returned (.agg (n17 ((a + b) % P5))) ∧ Below X.heap.size X w' := radd_any a b (lt255 ha) (lt255 hb) X
def tpC (s : Ed.Tp) : Array Value := mC s.x.val s.y.val s.z.val
theorem mnone_any (w : World) : Calls Tryd.prog 59 #[] w fun e w' => e = .returned (.agg (tpC Ed.Tp.none)) ∧ Below w.heap.size w w' := by
 show Calls _ _ _ _ fun e w' => e = .returned (.agg (mC 0 1 1)) ∧ Below w.heap.size w w'
 have hum := Tryd.underlying31
 have hun := Tryd.underlying29
 have hzM := mZero
 have hzN := nZero
 have h0 := (on_all w).alloc (.cells (mC 0 0 0) 31)
 have s0 := (Str.refl w).alloc (.cells (mC 0 0 0) 31)
 try simp only [World.size_alloc] at h0
 have H1 := hide h0
 have S1 := hide s0
 clear h0 s0
 have Hb := hide (fun X => run_bm 0 1 1 X)
 have H0s := hide (fun X => rsm 0 (by decide) (by decide) X)
 have H1s := hide (fun X => rsm 1 (by decide) (by decide) X)
 obtain ⟨HsR, HoR, HzR⟩ := b3 (mInfo 0 1 1) (mC_one 0 1 1) (mSize 0 0 0 0 1 1)
 obtain ⟨HsN0, HoN0, HzN0⟩ := nF 0
 obtain ⟨HsN1, HoN1, HzN1⟩ := nF 1
 generalize mC 0 1 1 = R at *
 generalize n17 0 = N0 at *
 generalize n17 1 = N1 at *
 generalize mC 0 0 0 = Zm at *
 generalize n17 0 = Zn at *
 go_enter Tryd.func59, Tryd.ntmps59
 refine wp_seq_h fun K1 hK1 => ?_
 go_wp2_with fail
 refine hK1.out _ _ ?_
 clear hK1 K1
 generalize w.alloc (.cells Zm 31) = w1 at *
 refine wp_seq_h fun K2 hK2 => ?_
 refine wp_region_seq 4 [isV (.agg N0), isV (.agg N1), isV (.agg N1), isV (.agg R)]
  (by simp only [List.take_succ_cons, List.take_zero]; rfl) (by simp only [List.drop_succ_cons, List.drop_zero]; rfl) (by kernel_rfl) (by kernel_rfl) (by kernel_rfl) (by decide) rfl ?keep ?todo ?r1
 case keep => exact ⟨Keep.isV _, Keep.isV _, Keep.isV _, Keep.isV _, trivial⟩
 case todo =>
  refine ⟨?_, ?_, ?_, ?_, trivial⟩
  ·intro ev X hT hb hk hf
   exact OpOk.c (by simp [execOp, resolve, invoke, hb.1, hb.2.1, go_sem]) (H0s.out X)
  ·intro ev X hT hb hk hf
   exact OpOk.c (by simp [execOp, resolve, invoke, hb.1, hb.2.1, go_sem]) (H1s.out X)
  ·intro ev X hT hb hk hf
   exact OpOk.c (by simp [execOp, resolve, invoke, hb.1, hb.2.1, go_sem]) (H1s.out X)
  ·intro ev X hT hb hk hf
   have e0 : ev (.tmp 1) = _ := hf.1
   have e1 : ev (.tmp 2) = _ := hf.2.1
   have e2 : ev (.tmp 3) = _ := hf.2.2.1
   exact OpOk.r (by simp [execOp, e0, e1, e2, Hb.out X])
 intro w2 hX
 rintro _ rfl _ rfl _ rfl _ rfl
 obtain ⟨H2, S2⟩ := nx H1.out S1.out hX
 clear hX H1 S1
 go_wp2
 refine Rest.done ?_
 have gR := on_blk_mul H2.out
 have HB := hide (all_below H2.out.right S2.out)
 go_wp2_with (first
  | (refine wS gR HsR HzR HoR ?_))
 refine hK2.out _ _ ?_
 clear hK2 K2
 go_wp2_with fail
 exact retR Tryd.results59 gR hum HsR.out rfl HB.out (by omega)
theorem madd_nat (px py pz qx qy qz : Nat) (bpx : px < P5) (bpy : py < P5) (bpz : pz < P5) (bqx : qx < P5) (bqy : qy < P5) (bqz : qz < P5) (d : Nat) (bd : d < P5) (w : World) :
  Calls Tryd.prog 13 #[.agg (mC px py pz), .agg (mC qx qy qz), .agg (n17 d)] w fun e w' => e = .returned (.agg (mC
   (pz * qz % P5 * ((pz * qz % P5 * (pz * qz % P5) % P5 + (P5 - d * (px * qx % P5 * (py * qy % P5) % P5) % P5)) % P5) % P5 * ((((px + py) % P5 * ((qx + qy) % P5) % P5 + (P5 - px * qx % P5)) % P5 + (P5 - py * qy % P5)) % P5) % P5)
   (pz * qz % P5 * ((pz * qz % P5 * (pz * qz % P5) % P5 + d * (px * qx % P5 * (py * qy % P5) % P5) % P5) % P5) % P5 * ((py * qy % P5 + px * qx % P5) % P5) % P5)
   ((pz * qz % P5 * (pz * qz % P5) % P5 + (P5 - d * (px * qx % P5 * (py * qy % P5) % P5) % P5)) % P5 * ((pz * qz % P5 * (pz * qz % P5) % P5 + d * (px * qx % P5 * (py * qy % P5) % P5) % P5) % P5) % P5))) ∧ Below w.heap.size w w' := by
 have hum := Tryd.underlying31
 have hun := Tryd.underlying29
 have hzM := mZero
 have hzN := nZero
 have h0 := ((((on_all w).alloc (.cells (mC px py pz) 31)).alloc (.cells (mC qx qy qz) 31)).alloc (.cells (n17 d) 29)).alloc (.cells (mC 0 0 0) 31)
 have s0 := ((((Str.refl w).alloc (.cells (mC px py pz) 31)).alloc (.cells (mC qx qy qz) 31)).alloc (.cells (n17 d) 29)).alloc (.cells (mC 0 0 0) 31)
 try simp only [World.size_alloc] at h0
 have H1 := hide h0
 have S1 := hide s0
 clear h0 s0
 have kMul_pz_qz0 := fun X => rmul5 pz qz bpz bqz X
 have ba : pz * qz % P5 < P5 := Nat.mod_lt _ P5_pos
 generalize hea : pz * qz % P5 = a at *
 have Hea := hide hea
 clear hea
 have kMul_pz_qz := hide kMul_pz_qz0
 clear kMul_pz_qz0
 have kMul_a_a0 := fun X => rmul5 a a ba ba X
 have bb : a * a % P5 < P5 := Nat.mod_lt _ P5_pos
 generalize heb : a * a % P5 = b at *
 have Heb := hide heb
 clear heb
 have kMul_a_a := hide kMul_a_a0
 clear kMul_a_a0
 have kMul_px_qx0 := fun X => rmul5 px qx bpx bqx X
 have bc : px * qx % P5 < P5 := Nat.mod_lt _ P5_pos
 generalize hec : px * qx % P5 = c at *
 have Hec := hide hec
 clear hec
 have kMul_px_qx := hide kMul_px_qx0
 clear kMul_px_qx0
 have kMul_py_qy0 := fun X => rmul5 py qy bpy bqy X
 have be : py * qy % P5 < P5 := Nat.mod_lt _ P5_pos
 generalize hee : py * qy % P5 = e at *
 have Hee := hide hee
 clear hee
 have kMul_py_qy := hide kMul_py_qy0
 clear kMul_py_qy0
 have kMul_c_e0 := fun X => rmul5 c e bc be X
 have bce : c * e % P5 < P5 := Nat.mod_lt _ P5_pos
 generalize hece : c * e % P5 = ce at *
 have Hece := hide hece
 clear hece
 have kMul_c_e := hide kMul_c_e0
 clear kMul_c_e0
 have kMul_d_ce0 := fun X => rmul5 d ce bd bce X
 have bf : d * ce % P5 < P5 := Nat.mod_lt _ P5_pos
 generalize hef : d * ce % P5 = f at *
 have Hef := hide hef
 clear hef
 have kMul_d_ce := hide kMul_d_ce0
 clear kMul_d_ce0
 have kSub_b_f0 := fun X => rsub_any b f bb bf X
 have bg : (b + (P5 - f)) % P5 < P5 := Nat.mod_lt _ P5_pos
 generalize heg : (b + (P5 - f)) % P5 = g at *
 have Heg := hide heg
 clear heg
 have kSub_b_f := hide kSub_b_f0
 clear kSub_b_f0
 have kAdd_b_f0 := fun X => radd5 b f bb bf X
 have bh : (b + f) % P5 < P5 := Nat.mod_lt _ P5_pos
 generalize heh : (b + f) % P5 = h at *
 have Heh := hide heh
 clear heh
 have kAdd_b_f := hide kAdd_b_f0
 clear kAdd_b_f0
 have kAdd_px_py0 := fun X => radd5 px py bpx bpy X
 have bs1 : (px + py) % P5 < P5 := Nat.mod_lt _ P5_pos
 generalize hes1 : (px + py) % P5 = s1 at *
 have Hes1 := hide hes1
 clear hes1
 have kAdd_px_py := hide kAdd_px_py0
 clear kAdd_px_py0
 have kAdd_qx_qy0 := fun X => radd5 qx qy bqx bqy X
 have bs2 : (qx + qy) % P5 < P5 := Nat.mod_lt _ P5_pos
 generalize hes2 : (qx + qy) % P5 = s2 at *
 have Hes2 := hide hes2
 clear hes2
 have kAdd_qx_qy := hide kAdd_qx_qy0
 clear kAdd_qx_qy0
 have kMul_s1_s20 := fun X => rmul5 s1 s2 bs1 bs2 X
 have bm : s1 * s2 % P5 < P5 := Nat.mod_lt _ P5_pos
 generalize hem : s1 * s2 % P5 = m at *
 have Hem := hide hem
 clear hem
 have kMul_s1_s2 := hide kMul_s1_s20
 clear kMul_s1_s20
 have kSub_m_c0 := fun X => rsub_any m c bm bc X
 have bm1 : (m + (P5 - c)) % P5 < P5 := Nat.mod_lt _ P5_pos
 generalize hem1 : (m + (P5 - c)) % P5 = m1 at *
 have Hem1 := hide hem1
 clear hem1
 have kSub_m_c := hide kSub_m_c0
 clear kSub_m_c0
 have kSub_m1_e0 := fun X => rsub_any m1 e bm1 be X
 have bcr : (m1 + (P5 - e)) % P5 < P5 := Nat.mod_lt _ P5_pos
 generalize hecr : (m1 + (P5 - e)) % P5 = cr at *
 have Hecr := hide hecr
 clear hecr
 have kSub_m1_e := hide kSub_m1_e0
 clear kSub_m1_e0
 have kMul_a_g0 := fun X => rmul5 a g ba bg X
 have bag : a * g % P5 < P5 := Nat.mod_lt _ P5_pos
 generalize heag : a * g % P5 = ag at *
 have Heag := hide heag
 clear heag
 have kMul_a_g := hide kMul_a_g0
 clear kMul_a_g0
 have kMul_ag_cr0 := fun X => rmul5 ag cr bag bcr X
 have brx : ag * cr % P5 < P5 := Nat.mod_lt _ P5_pos
 generalize herx : ag * cr % P5 = rx at *
 have Herx := hide herx
 clear herx
 have kMul_ag_cr := hide kMul_ag_cr0
 clear kMul_ag_cr0
 have kMul_a_h0 := fun X => rmul5 a h ba bh X
 have bah : a * h % P5 < P5 := Nat.mod_lt _ P5_pos
 generalize heah : a * h % P5 = ah at *
 have Heah := hide heah
 clear heah
 have kMul_a_h := hide kMul_a_h0
 clear kMul_a_h0
 have kAdd_e_c0 := fun X => radd5 e c be bc X
 have bec : (e + c) % P5 < P5 := Nat.mod_lt _ P5_pos
 generalize heec : (e + c) % P5 = ec at *
 have Heec := hide heec
 clear heec
 have kAdd_e_c := hide kAdd_e_c0
 clear kAdd_e_c0
 have kMul_ah_ec0 := fun X => rmul5 ah ec bah bec X
 have bry : ah * ec % P5 < P5 := Nat.mod_lt _ P5_pos
 generalize hery : ah * ec % P5 = ry at *
 have Hery := hide hery
 clear hery
 have kMul_ah_ec := hide kMul_ah_ec0
 clear kMul_ah_ec0
 have kMul_g_h0 := fun X => rmul5 g h bg bh X
 have brz : g * h % P5 < P5 := Nat.mod_lt _ P5_pos
 generalize herz : g * h % P5 = rz at *
 have Herz := hide herz
 clear herz
 have kMul_g_h := hide kMul_g_h0
 clear kMul_g_h0
 have Hb := hide (fun X => run_bm rx ry rz X)
 obtain ⟨HsPP, HoPP, HzPP⟩ := b3 (mInfo px py pz) (mC_one px py pz) (mSize 0 0 0 px py pz)
 have HpPP_0 := hide (mC_x px py pz)
 have HpPP_17 := hide (mC_y px py pz)
 have HpPP_34 := hide (mC_z px py pz)
 obtain ⟨HsQQ, HoQQ, HzQQ⟩ := b3 (mInfo qx qy qz) (mC_one qx qy qz) (mSize 0 0 0 qx qy qz)
 have HpQQ_0 := hide (mC_x qx qy qz)
 have HpQQ_17 := hide (mC_y qx qy qz)
 have HpQQ_34 := hide (mC_z qx qy qz)
 obtain ⟨HsRR, HoRR, HzRR⟩ := b3 (mInfo rx ry rz) (mC_one rx ry rz) (mSize 0 0 0 rx ry rz)
 obtain ⟨HsPX, HoPX, HzPX⟩ := nF px
 obtain ⟨HsPY, HoPY, HzPY⟩ := nF py
 obtain ⟨HsPZ, HoPZ, HzPZ⟩ := nF pz
 obtain ⟨HsQX, HoQX, HzQX⟩ := nF qx
 obtain ⟨HsQY, HoQY, HzQY⟩ := nF qy
 obtain ⟨HsQZ, HoQZ, HzQZ⟩ := nF qz
 obtain ⟨HsDd, HoDd, HzDd⟩ := nF d
 obtain ⟨HsVa, HoVa, HzVa⟩ := nF a
 obtain ⟨HsVb, HoVb, HzVb⟩ := nF b
 obtain ⟨HsVc, HoVc, HzVc⟩ := nF c
 obtain ⟨HsVe, HoVe, HzVe⟩ := nF e
 obtain ⟨HsVce, HoVce, HzVce⟩ := nF ce
 obtain ⟨HsVf, HoVf, HzVf⟩ := nF f
 obtain ⟨HsVg, HoVg, HzVg⟩ := nF g
 obtain ⟨HsVh, HoVh, HzVh⟩ := nF h
 obtain ⟨HsVs1, HoVs1, HzVs1⟩ := nF s1
 obtain ⟨HsVs2, HoVs2, HzVs2⟩ := nF s2
 obtain ⟨HsVm, HoVm, HzVm⟩ := nF m
 obtain ⟨HsVm1, HoVm1, HzVm1⟩ := nF m1
 obtain ⟨HsVcr, HoVcr, HzVcr⟩ := nF cr
 obtain ⟨HsVag, HoVag, HzVag⟩ := nF ag
 obtain ⟨HsVrx, HoVrx, HzVrx⟩ := nF rx
 obtain ⟨HsVah, HoVah, HzVah⟩ := nF ah
 obtain ⟨HsVec, HoVec, HzVec⟩ := nF ec
 obtain ⟨HsVry, HoVry, HzVry⟩ := nF ry
 obtain ⟨HsVrz, HoVrz, HzVrz⟩ := nF rz
 clear ba bb bc be bce bf bg bh bs1 bs2 bm bm1 bcr bag brx bah bec bry brz bpx bpy bpz bqx bqy bqz bd
 generalize mC px py pz = PP at *
 generalize mC qx qy qz = QQ at *
 generalize mC rx ry rz = RR at *
 generalize n17 px = PX at *
 generalize n17 py = PY at *
 generalize n17 pz = PZ at *
 generalize n17 qx = QX at *
 generalize n17 qy = QY at *
 generalize n17 qz = QZ at *
 generalize n17 d = Dd at *
 generalize n17 a = Va at *
 generalize n17 b = Vb at *
 generalize n17 c = Vc at *
 generalize n17 e = Ve at *
 generalize n17 ce = Vce at *
 generalize n17 f = Vf at *
 generalize n17 g = Vg at *
 generalize n17 h = Vh at *
 generalize n17 s1 = Vs1 at *
 generalize n17 s2 = Vs2 at *
 generalize n17 m = Vm at *
 generalize n17 m1 = Vm1 at *
 generalize n17 cr = Vcr at *
 generalize n17 ag = Vag at *
 generalize n17 rx = Vrx at *
 generalize n17 ah = Vah at *
 generalize n17 ec = Vec at *
 generalize n17 ry = Vry at *
 generalize n17 rz = Vrz at *
 generalize mC 0 0 0 = Zm at *
 generalize n17 0 = Zn at *
 go_enter Tryd.func13, Tryd.ntmps13
 refine wp_seq_h fun K5 hK5 => ?_
 go_wp2_with fail
 refine hK5.out _ _ ?_
 clear hK5 K5
 generalize (((w.alloc (.cells PP 31)).alloc (.cells QQ 31)).alloc (.cells Dd 29)).alloc (.cells Zm 31) = w1 at *
 refine wp_seq_h fun K6 hK6 => ?_
 refine wp_region_seq 6 [isV (.pointer (some ⟨w.heap.size, 34, .none⟩)), isV (.agg PZ), isV (.pointer (some ⟨w.heap.size + 1, 34, .none⟩)), isV (.agg QZ), isV (.agg Va), Fresh w1.heap.size (.cells Zn 29 (0, 0))]
  (by simp only [List.take_succ_cons, List.take_zero]; rfl) (by simp only [List.drop_succ_cons, List.drop_zero]; rfl) (by kernel_rfl) (by kernel_rfl) (by kernel_rfl) (by decide) rfl ?keep ?todo ?r2
 case keep => exact ⟨Keep.isV _, Keep.isV _, Keep.isV _, Keep.isV _, Keep.isV _, Fresh.keep, trivial⟩
 case todo =>
  refine ⟨?_, ?_, ?_, ?_, ?_, ?_, trivial⟩
  ·intro ev X hT hb hk hf
   have e0 : ev (.tmp 3) = .pointer (some ⟨w.heap.size, 0, .none⟩) := hk.1
   exact OpOk.r (by simp [execOp, e0, go_sem])
  ·intro ev X hT hb hk hf
   have e0 : ev (.tmp 15) = _ := hf.1
   exact OpOk.lp e0 (rowPart (on_blk_mul (H1.out.below hT).right.right.right) HpPP_34.out) hun HsPZ.out
  ·intro ev X hT hb hk hf
   have e0 : ev (.tmp 4) = .pointer (some ⟨w.heap.size + 1, 0, .none⟩) := hk.1
   exact OpOk.r (by simp [execOp, e0, go_sem])
  ·intro ev X hT hb hk hf
   have e0 : ev (.tmp 17) = _ := hf.1
   exact OpOk.lp e0 (rowPart (on_blk_mul (H1.out.below hT).right.right) HpQQ_34.out) hun HsQZ.out
  ·intro ev X hT hb hk hf
   have e0 : ev (.tmp 16) = _ := hf.1
   have e1 : ev (.tmp 18) = _ := hf.2.1
   exact OpOk.c (by simp [execOp, resolve, invoke, e0, e1, hb.1, hb.2.1, go_sem]) (kMul_pz_qz.out X)
  ·intro ev X hT hb hk hf
   exact OpOk.al hT.size (by simp [execOp, hzN, go_sem])
 intro w2 hX
 rintro _ rfl _ rfl _ rfl _ rfl _ rfl _ ⟨g7, rfl, hgg7, hcg7⟩
 have H2 := hide (on_fresh H1.out hX hgg7 hcg7)
 have S2 := hide (S1.out.trans (Str.below hX))
 clear hX H1 S1 hgg7 hcg7
 go_wp2
 refine Rest.done ?_
 have H3 := hide (st0 H2.out (cs := Va))
 have S3 := hide (S2.out.setRow (g7) Va)
 have gW := on_blk_mul H2.out
 go_wp2_with (first
  | (refine wS gW HsVa HzVa HoVa ?_))
 refine hK6.out _ _ ?_
 clear hK6 K6
 generalize w2.setRow (g7) Va = w3 at *
 clear gW H2 S2
 refine wp_seq_h fun K7 hK7 => ?_
 refine wp_region_seq 4 [isV (.agg Va), isV (.agg Va), isV (.agg Vb), Fresh w3.heap.size (.cells Zn 29 (0, 0))]
  (by simp only [List.take_succ_cons, List.take_zero]; rfl) (by simp only [List.drop_succ_cons, List.drop_zero]; rfl) (by kernel_rfl) (by kernel_rfl) (by kernel_rfl) (by decide) rfl ?keep ?todo ?r3
 case keep => exact ⟨Keep.isV _, Keep.isV _, Keep.isV _, Fresh.keep, trivial⟩
 case todo =>
  refine ⟨?_, ?_, ?_, ?_, trivial⟩
  ·exact fun ev X hT hb hk hf => OpOk.l (x := .tmp 7) hk.1 (on_blk_mul (H3.out.below hT)) hun HsVa.out
  ·exact fun ev X hT hb hk hf => OpOk.l (x := .tmp 7) hk.1 (on_blk_mul (H3.out.below hT)) hun HsVa.out
  ·intro ev X hT hb hk hf
   have e0 : ev (.tmp 20) = _ := hf.1
   have e1 : ev (.tmp 21) = _ := hf.2.1
   exact OpOk.c (by simp [execOp, resolve, invoke, e0, e1, hb.1, hb.2.1, go_sem]) (kMul_a_a.out X)
  ·intro ev X hT hb hk hf
   exact OpOk.al hT.size (by simp [execOp, hzN, go_sem])
 intro w4 hX
 rintro _ rfl _ rfl _ rfl _ ⟨g8, rfl, hgg8, hcg8⟩
 have H4 := hide (on_fresh H3.out hX hgg8 hcg8)
 have S4 := hide (S3.out.trans (Str.below hX))
 clear hX H3 S3 hgg8 hcg8
 go_wp2
 refine Rest.done ?_
 have H5 := hide (st0 H4.out (cs := Vb))
 have S5 := hide (S4.out.setRow (g8) Vb)
 have gW := on_blk_mul H4.out
 go_wp2_with (first
  | (refine wS gW HsVb HzVb HoVb ?_))
 refine hK7.out _ _ ?_
 clear hK7 K7
 generalize w4.setRow (g8) Vb = w5 at *
 clear gW H4 S4
 refine wp_seq_h fun K8 hK8 => ?_
 refine wp_region_seq 6 [isV (.pointer (some ⟨w.heap.size, 0, .none⟩)), isV (.agg PX), isV (.pointer (some ⟨w.heap.size + 1, 0, .none⟩)), isV (.agg QX), isV (.agg Vc), Fresh w5.heap.size (.cells Zn 29 (0, 0))]
  (by simp only [List.take_succ_cons, List.take_zero]; rfl) (by simp only [List.drop_succ_cons, List.drop_zero]; rfl) (by kernel_rfl) (by kernel_rfl) (by kernel_rfl) (by decide) rfl ?keep ?todo ?r4
 case keep => exact ⟨Keep.isV _, Keep.isV _, Keep.isV _, Keep.isV _, Keep.isV _, Fresh.keep, trivial⟩
 case todo =>
  refine ⟨?_, ?_, ?_, ?_, ?_, ?_, trivial⟩
  ·intro ev X hT hb hk hf
   have e0 : ev (.tmp 3) = .pointer (some ⟨w.heap.size, 0, .none⟩) := hk.1
   exact OpOk.r (by simp [execOp, e0, go_sem])
  ·intro ev X hT hb hk hf
   have e0 : ev (.tmp 23) = _ := hf.1
   exact OpOk.lp e0 (rowPart (on_blk_mul (H5.out.below hT).right.right.right.right.right) HpPP_0.out) hun HsPX.out
  ·intro ev X hT hb hk hf
   have e0 : ev (.tmp 4) = .pointer (some ⟨w.heap.size + 1, 0, .none⟩) := hk.1
   exact OpOk.r (by simp [execOp, e0, go_sem])
  ·intro ev X hT hb hk hf
   have e0 : ev (.tmp 25) = _ := hf.1
   exact OpOk.lp e0 (rowPart (on_blk_mul (H5.out.below hT).right.right.right.right) HpQQ_0.out) hun HsQX.out
  ·intro ev X hT hb hk hf
   have e0 : ev (.tmp 24) = _ := hf.1
   have e1 : ev (.tmp 26) = _ := hf.2.1
   exact OpOk.c (by simp [execOp, resolve, invoke, e0, e1, hb.1, hb.2.1, go_sem]) (kMul_px_qx.out X)
  ·intro ev X hT hb hk hf
   exact OpOk.al hT.size (by simp [execOp, hzN, go_sem])
 intro w6 hX
 rintro _ rfl _ rfl _ rfl _ rfl _ rfl _ ⟨g9, rfl, hgg9, hcg9⟩
 have H6 := hide (on_fresh H5.out hX hgg9 hcg9)
 have S6 := hide (S5.out.trans (Str.below hX))
 clear hX H5 S5 hgg9 hcg9
 go_wp2
 refine Rest.done ?_
 have H7 := hide (st0 H6.out (cs := Vc))
 have S7 := hide (S6.out.setRow (g9) Vc)
 have gW := on_blk_mul H6.out
 go_wp2_with (first
  | (refine wS gW HsVc HzVc HoVc ?_))
 refine hK8.out _ _ ?_
 clear hK8 K8
 generalize w6.setRow (g9) Vc = w7 at *
 clear gW H6 S6
 refine wp_seq_h fun K9 hK9 => ?_
 refine wp_region_seq 6 [isV (.pointer (some ⟨w.heap.size, 17, .none⟩)), isV (.agg PY), isV (.pointer (some ⟨w.heap.size + 1, 17, .none⟩)), isV (.agg QY), isV (.agg Ve), Fresh w7.heap.size (.cells Zn 29 (0, 0))]
  (by simp only [List.take_succ_cons, List.take_zero]; rfl) (by simp only [List.drop_succ_cons, List.drop_zero]; rfl) (by kernel_rfl) (by kernel_rfl) (by kernel_rfl) (by decide) rfl ?keep ?todo ?r5
 case keep => exact ⟨Keep.isV _, Keep.isV _, Keep.isV _, Keep.isV _, Keep.isV _, Fresh.keep, trivial⟩
 case todo =>
  refine ⟨?_, ?_, ?_, ?_, ?_, ?_, trivial⟩
  ·intro ev X hT hb hk hf
   have e0 : ev (.tmp 3) = .pointer (some ⟨w.heap.size, 0, .none⟩) := hk.1
   exact OpOk.r (by simp [execOp, e0, go_sem])
  ·intro ev X hT hb hk hf
   have e0 : ev (.tmp 28) = _ := hf.1
   exact OpOk.lp e0 (rowPart (on_blk_mul (H7.out.below hT).right.right.right.right.right.right) HpPP_17.out) hun HsPY.out
  ·intro ev X hT hb hk hf
   have e0 : ev (.tmp 4) = .pointer (some ⟨w.heap.size + 1, 0, .none⟩) := hk.1
   exact OpOk.r (by simp [execOp, e0, go_sem])
  ·intro ev X hT hb hk hf
   have e0 : ev (.tmp 30) = _ := hf.1
   exact OpOk.lp e0 (rowPart (on_blk_mul (H7.out.below hT).right.right.right.right.right) HpQQ_17.out) hun HsQY.out
  ·intro ev X hT hb hk hf
   have e0 : ev (.tmp 29) = _ := hf.1
   have e1 : ev (.tmp 31) = _ := hf.2.1
   exact OpOk.c (by simp [execOp, resolve, invoke, e0, e1, hb.1, hb.2.1, go_sem]) (kMul_py_qy.out X)
  ·intro ev X hT hb hk hf
   exact OpOk.al hT.size (by simp [execOp, hzN, go_sem])
 intro w8 hX
 rintro _ rfl _ rfl _ rfl _ rfl _ rfl _ ⟨g10, rfl, hgg10, hcg10⟩
 have H8 := hide (on_fresh H7.out hX hgg10 hcg10)
 have S8 := hide (S7.out.trans (Str.below hX))
 clear hX H7 S7 hgg10 hcg10
 go_wp2
 refine Rest.done ?_
 have H9 := hide (st0 H8.out (cs := Ve))
 have S9 := hide (S8.out.setRow (g10) Ve)
 have gW := on_blk_mul H8.out
 go_wp2_with (first
  | (refine wS gW HsVe HzVe HoVe ?_))
 refine hK9.out _ _ ?_
 clear hK9 K9
 generalize w8.setRow (g10) Ve = w9 at *
 clear gW H8 S8
 refine wp_seq_h fun K10 hK10 => ?_
 refine wp_tail 6 [isV (.agg Dd), isV (.agg Vc), isV (.agg Ve), isV (.agg Vce), isV (.agg Vf), Fresh w9.heap.size (.cells Zn 29 (0, 0))] ?keep ?todo ?r6
 case keep => exact ⟨Keep.isV _, Keep.isV _, Keep.isV _, Keep.isV _, Keep.isV _, Fresh.keep, trivial⟩
 case todo =>
  refine ⟨?_, ?_, ?_, ?_, ?_, ?_, trivial⟩
  ·exact fun ev X hT hb hk hf => OpOk.l (x := .tmp 5) hk.1 (on_blk_mul (H9.out.below hT).right.right.right.right.right) hun HsDd.out
  ·exact fun ev X hT hb hk hf => OpOk.l (x := .tmp 9) hk.1 (on_blk_mul (H9.out.below hT).right) hun HsVc.out
  ·exact fun ev X hT hb hk hf => OpOk.l (x := .tmp 10) hk.1 (on_blk_mul (H9.out.below hT)) hun HsVe.out
  ·intro ev X hT hb hk hf
   have e0 : ev (.tmp 34) = _ := hf.1
   have e1 : ev (.tmp 35) = _ := hf.2.1
   exact OpOk.c (by simp [execOp, resolve, invoke, e0, e1, hb.1, hb.2.1, go_sem]) (kMul_c_e.out X)
  ·intro ev X hT hb hk hf
   have e0 : ev (.tmp 33) = _ := hf.1
   have e1 : ev (.tmp 36) = _ := hf.2.1
   exact OpOk.c (by simp [execOp, resolve, invoke, e0, e1, hb.1, hb.2.1, go_sem]) (kMul_d_ce.out X)
  ·intro ev X hT hb hk hf
   exact OpOk.al hT.size (by simp [execOp, hzN, go_sem])
 intro w10 hX
 rintro _ rfl _ rfl _ rfl _ rfl _ rfl _ ⟨g11, rfl, hgg11, hcg11⟩
 have H10 := hide (on_fresh H9.out hX hgg11 hcg11)
 have S10 := hide (S9.out.trans (Str.below hX))
 clear hX H9 S9 hgg11 hcg11
 go_wp2
 refine Rest.done ?_
 have H11 := hide (st0 H10.out (cs := Vf))
 have S11 := hide (S10.out.setRow (g11) Vf)
 have gW := on_blk_mul H10.out
 go_wp2_with (first
  | (refine wS gW HsVf HzVf HoVf ?_))
 refine hK10.out _ _ ?_
 clear hK10 K10
 generalize w10.setRow (g11) Vf = w11 at *
 clear gW H10 S10
 refine wp_seq_h fun K11 hK11 => ?_
 refine wp_region_seq 4 [isV (.agg Vb), isV (.agg Vf), isV (.agg Vg), Fresh w11.heap.size (.cells Zn 29 (0, 0))]
  (by simp only [List.take_succ_cons, List.take_zero]; rfl) (by simp only [List.drop_succ_cons, List.drop_zero]; rfl) (by kernel_rfl) (by kernel_rfl) (by kernel_rfl) (by decide) rfl ?keep ?todo ?r7
 case keep => exact ⟨Keep.isV _, Keep.isV _, Keep.isV _, Fresh.keep, trivial⟩
 case todo =>
  refine ⟨?_, ?_, ?_, ?_, trivial⟩
  ·exact fun ev X hT hb hk hf => OpOk.l (x := .tmp 8) hk.1 (on_blk_mul (H11.out.below hT).right.right.right) hun HsVb.out
  ·exact fun ev X hT hb hk hf => OpOk.l (x := .tmp 11) hk.1 (on_blk_mul (H11.out.below hT)) hun HsVf.out
  ·intro ev X hT hb hk hf
   have e0 : ev (.tmp 38) = _ := hf.1
   have e1 : ev (.tmp 39) = _ := hf.2.1
   exact OpOk.c (by simp [execOp, resolve, invoke, e0, e1, hb.1, hb.2.1, go_sem]) (kSub_b_f.out X)
  ·intro ev X hT hb hk hf
   exact OpOk.al hT.size (by simp [execOp, hzN, go_sem])
 intro w12 hX
 rintro _ rfl _ rfl _ rfl _ ⟨g12, rfl, hgg12, hcg12⟩
 have H12 := hide (on_fresh H11.out hX hgg12 hcg12)
 have S12 := hide (S11.out.trans (Str.below hX))
 clear hX H11 S11 hgg12 hcg12
 go_wp2
 refine Rest.done ?_
 have H13 := hide (st0 H12.out (cs := Vg))
 have S13 := hide (S12.out.setRow (g12) Vg)
 have gW := on_blk_mul H12.out
 go_wp2_with (first
  | (refine wS gW HsVg HzVg HoVg ?_))
 refine hK11.out _ _ ?_
 clear hK11 K11
 generalize w12.setRow (g12) Vg = w13 at *
 clear gW H12 S12
 refine wp_seq_h fun K12 hK12 => ?_
 refine wp_region_seq 4 [isV (.agg Vb), isV (.agg Vf), isV (.agg Vh), Fresh w13.heap.size (.cells Zn 29 (0, 0))]
  (by simp only [List.take_succ_cons, List.take_zero]; rfl) (by simp only [List.drop_succ_cons, List.drop_zero]; rfl) (by kernel_rfl) (by kernel_rfl) (by kernel_rfl) (by decide) rfl ?keep ?todo ?r8
 case keep => exact ⟨Keep.isV _, Keep.isV _, Keep.isV _, Fresh.keep, trivial⟩
 case todo =>
  refine ⟨?_, ?_, ?_, ?_, trivial⟩
  ·exact fun ev X hT hb hk hf => OpOk.l (x := .tmp 8) hk.1 (on_blk_mul (H13.out.below hT).right.right.right.right) hun HsVb.out
  ·exact fun ev X hT hb hk hf => OpOk.l (x := .tmp 11) hk.1 (on_blk_mul (H13.out.below hT).right) hun HsVf.out
  ·intro ev X hT hb hk hf
   have e0 : ev (.tmp 41) = _ := hf.1
   have e1 : ev (.tmp 42) = _ := hf.2.1
   exact OpOk.c (by simp [execOp, resolve, invoke, e0, e1, hb.1, hb.2.1, go_sem]) (kAdd_b_f.out X)
  ·intro ev X hT hb hk hf
   exact OpOk.al hT.size (by simp [execOp, hzN, go_sem])
 intro w14 hX
 rintro _ rfl _ rfl _ rfl _ ⟨g13, rfl, hgg13, hcg13⟩
 have H14 := hide (on_fresh H13.out hX hgg13 hcg13)
 have S14 := hide (S13.out.trans (Str.below hX))
 clear hX H13 S13 hgg13 hcg13
 go_wp2
 refine Rest.done ?_
 have H15 := hide (st0 H14.out (cs := Vh))
 have S15 := hide (S14.out.setRow (g13) Vh)
 have gW := on_blk_mul H14.out
 go_wp2_with (first
  | (refine wS gW HsVh HzVh HoVh ?_))
 refine hK12.out _ _ ?_
 clear hK12 K12
 generalize w14.setRow (g13) Vh = w15 at *
 clear gW H14 S14
 refine wp_seq_h fun K13 hK13 => ?_
 refine wp_tail 16 [isV (.pointer (some ⟨w.heap.size, 0, .none⟩)), isV (.agg PX), isV (.pointer (some ⟨w.heap.size, 17, .none⟩)), isV (.agg PY), isV (.agg Vs1), isV (.pointer (some ⟨w.heap.size + 1, 0, .none⟩)), isV (.agg QX), isV (.pointer (some ⟨w.heap.size + 1, 17, .none⟩)), isV (.agg QY), isV (.agg Vs2), isV (.agg Vm), isV (.agg Vc), isV (.agg Vm1), isV (.agg Ve), isV (.agg Vcr), Fresh w15.heap.size (.cells Zn 29 (0, 0))] ?keep ?todo ?r9
 case keep => exact ⟨Keep.isV _, Keep.isV _, Keep.isV _, Keep.isV _, Keep.isV _, Keep.isV _, Keep.isV _, Keep.isV _, Keep.isV _, Keep.isV _, Keep.isV _, Keep.isV _, Keep.isV _, Keep.isV _, Keep.isV _, Fresh.keep, trivial⟩
 case todo =>
  refine ⟨?_, ?_, ?_, ?_, ?_, ?_, ?_, ?_, ?_, ?_, ?_, ?_, ?_, ?_, ?_, ?_, trivial⟩
  ·intro ev X hT hb hk hf
   have e0 : ev (.tmp 3) = .pointer (some ⟨w.heap.size, 0, .none⟩) := hk.1
   exact OpOk.r (by simp [execOp, e0, go_sem])
  ·intro ev X hT hb hk hf
   have e0 : ev (.tmp 44) = _ := hf.1
   exact OpOk.lp e0 (rowPart (on_blk_mul (H15.out.below hT).right.right.right.right.right.right.right.right.right.right) HpPP_0.out) hun HsPX.out
  ·intro ev X hT hb hk hf
   have e0 : ev (.tmp 3) = .pointer (some ⟨w.heap.size, 0, .none⟩) := hk.1
   exact OpOk.r (by simp [execOp, e0, go_sem])
  ·intro ev X hT hb hk hf
   have e0 : ev (.tmp 46) = _ := hf.1
   exact OpOk.lp e0 (rowPart (on_blk_mul (H15.out.below hT).right.right.right.right.right.right.right.right.right.right) HpPP_17.out) hun HsPY.out
  ·intro ev X hT hb hk hf
   have e0 : ev (.tmp 45) = _ := hf.1
   have e1 : ev (.tmp 47) = _ := hf.2.1
   exact OpOk.c (by simp [execOp, resolve, invoke, e0, e1, hb.1, hb.2.1, go_sem]) (kAdd_px_py.out X)
  ·intro ev X hT hb hk hf
   have e0 : ev (.tmp 4) = .pointer (some ⟨w.heap.size + 1, 0, .none⟩) := hk.1
   exact OpOk.r (by simp [execOp, e0, go_sem])
  ·intro ev X hT hb hk hf
   have e0 : ev (.tmp 49) = _ := hf.1
   exact OpOk.lp e0 (rowPart (on_blk_mul (H15.out.below hT).right.right.right.right.right.right.right.right.right) HpQQ_0.out) hun HsQX.out
  ·intro ev X hT hb hk hf
   have e0 : ev (.tmp 4) = .pointer (some ⟨w.heap.size + 1, 0, .none⟩) := hk.1
   exact OpOk.r (by simp [execOp, e0, go_sem])
  ·intro ev X hT hb hk hf
   have e0 : ev (.tmp 51) = _ := hf.1
   exact OpOk.lp e0 (rowPart (on_blk_mul (H15.out.below hT).right.right.right.right.right.right.right.right.right) HpQQ_17.out) hun HsQY.out
  ·intro ev X hT hb hk hf
   have e0 : ev (.tmp 50) = _ := hf.1
   have e1 : ev (.tmp 52) = _ := hf.2.1
   exact OpOk.c (by simp [execOp, resolve, invoke, e0, e1, hb.1, hb.2.1, go_sem]) (kAdd_qx_qy.out X)
  ·intro ev X hT hb hk hf
   have e0 : ev (.tmp 48) = _ := hf.1
   have e1 : ev (.tmp 53) = _ := hf.2.1
   exact OpOk.c (by simp [execOp, resolve, invoke, e0, e1, hb.1, hb.2.1, go_sem]) (kMul_s1_s2.out X)
  ·exact fun ev X hT hb hk hf => OpOk.l (x := .tmp 9) hk.1 (on_blk_mul (H15.out.below hT).right.right.right.right) hun HsVc.out
  ·intro ev X hT hb hk hf
   have e0 : ev (.tmp 54) = _ := hf.1
   have e1 : ev (.tmp 55) = _ := hf.2.1
   exact OpOk.c (by simp [execOp, resolve, invoke, e0, e1, hb.1, hb.2.1, go_sem]) (kSub_m_c.out X)
  ·exact fun ev X hT hb hk hf => OpOk.l (x := .tmp 10) hk.1 (on_blk_mul (H15.out.below hT).right.right.right) hun HsVe.out
  ·intro ev X hT hb hk hf
   have e0 : ev (.tmp 56) = _ := hf.1
   have e1 : ev (.tmp 57) = _ := hf.2.1
   exact OpOk.c (by simp [execOp, resolve, invoke, e0, e1, hb.1, hb.2.1, go_sem]) (kSub_m1_e.out X)
  ·intro ev X hT hb hk hf
   exact OpOk.al hT.size (by simp [execOp, hzN, go_sem])
 intro w16 hX
 rintro _ rfl _ rfl _ rfl _ rfl _ rfl _ rfl _ rfl _ rfl _ rfl _ rfl _ rfl _ rfl _ rfl _ rfl _ rfl _ ⟨g14, rfl, hgg14, hcg14⟩
 have H16 := hide (on_fresh H15.out hX hgg14 hcg14)
 have S16 := hide (S15.out.trans (Str.below hX))
 clear hX H15 S15 hgg14 hcg14
 go_wp2
 refine Rest.done ?_
 have H17 := hide (st0 H16.out (cs := Vcr))
 have S17 := hide (S16.out.setRow (g14) Vcr)
 have gW := on_blk_mul H16.out
 go_wp2_with (first
  | (refine wS gW HsVcr HzVcr HoVcr ?_))
 refine hK13.out _ _ ?_
 clear hK13 K13
 generalize w16.setRow (g14) Vcr = w17 at *
 clear gW H16 S16
 refine wp_seq_h fun K14 hK14 => ?_
 refine wp_tail 16 [isV (.agg Va), isV (.agg Vg), isV (.agg Vag), isV (.agg Vcr), isV (.agg Vrx), isV (.agg Va), isV (.agg Vh), isV (.agg Vah), isV (.agg Ve), isV (.agg Vc), isV (.agg Vec), isV (.agg Vry), isV (.agg Vg), isV (.agg Vh), isV (.agg Vrz), isV (.agg RR)] ?keep ?todo ?r10
 case keep => repeat (first | exact trivial | refine ⟨Keep.isV _, ?_⟩)
 case todo =>
  refine ⟨?_, ?_, ?_, ?_, ?_, ?_, ?_, ?_, ?_, ?_, ?_, ?_, ?_, ?_, ?_, ?_, trivial⟩
  ·exact fun ev X hT hb hk hf => OpOk.l (x := .tmp 7) hk.1 (on_blk_mul (H17.out.below hT).right.right.right.right.right.right.right) hun HsVa.out
  ·exact fun ev X hT hb hk hf => OpOk.l (x := .tmp 12) hk.1 (on_blk_mul (H17.out.below hT).right.right) hun HsVg.out
  ·intro ev X hT hb hk hf
   have e0 : ev (.tmp 59) = _ := hf.1
   have e1 : ev (.tmp 60) = _ := hf.2.1
   exact OpOk.c (by simp [execOp, resolve, invoke, e0, e1, hb.1, hb.2.1, go_sem]) (kMul_a_g.out X)
  ·exact fun ev X hT hb hk hf => OpOk.l (x := .tmp 14) hk.1 (on_blk_mul (H17.out.below hT)) hun HsVcr.out
  ·intro ev X hT hb hk hf
   have e0 : ev (.tmp 61) = _ := hf.1
   have e1 : ev (.tmp 62) = _ := hf.2.1
   exact OpOk.c (by simp [execOp, resolve, invoke, e0, e1, hb.1, hb.2.1, go_sem]) (kMul_ag_cr.out X)
  ·exact fun ev X hT hb hk hf => OpOk.l (x := .tmp 7) hk.1 (on_blk_mul (H17.out.below hT).right.right.right.right.right.right.right) hun HsVa.out
  ·exact fun ev X hT hb hk hf => OpOk.l (x := .tmp 13) hk.1 (on_blk_mul (H17.out.below hT).right) hun HsVh.out
  ·intro ev X hT hb hk hf
   have e0 : ev (.tmp 64) = _ := hf.1
   have e1 : ev (.tmp 65) = _ := hf.2.1
   exact OpOk.c (by simp [execOp, resolve, invoke, e0, e1, hb.1, hb.2.1, go_sem]) (kMul_a_h.out X)
  ·exact fun ev X hT hb hk hf => OpOk.l (x := .tmp 10) hk.1 (on_blk_mul (H17.out.below hT).right.right.right.right) hun HsVe.out
  ·exact fun ev X hT hb hk hf => OpOk.l (x := .tmp 9) hk.1 (on_blk_mul (H17.out.below hT).right.right.right.right.right) hun HsVc.out
  ·intro ev X hT hb hk hf
   have e0 : ev (.tmp 67) = _ := hf.1
   have e1 : ev (.tmp 68) = _ := hf.2.1
   exact OpOk.c (by simp [execOp, resolve, invoke, e0, e1, hb.1, hb.2.1, go_sem]) (kAdd_e_c.out X)
  ·intro ev X hT hb hk hf
   have e0 : ev (.tmp 66) = _ := hf.1
   have e1 : ev (.tmp 69) = _ := hf.2.1
   exact OpOk.c (by simp [execOp, resolve, invoke, e0, e1, hb.1, hb.2.1, go_sem]) (kMul_ah_ec.out X)
  ·exact fun ev X hT hb hk hf => OpOk.l (x := .tmp 12) hk.1 (on_blk_mul (H17.out.below hT).right.right) hun HsVg.out
  ·exact fun ev X hT hb hk hf => OpOk.l (x := .tmp 13) hk.1 (on_blk_mul (H17.out.below hT).right) hun HsVh.out
  ·intro ev X hT hb hk hf
   have e0 : ev (.tmp 71) = _ := hf.1
   have e1 : ev (.tmp 72) = _ := hf.2.1
   exact OpOk.c (by simp [execOp, resolve, invoke, e0, e1, hb.1, hb.2.1, go_sem]) (kMul_g_h.out X)
  ·intro ev X hT hb hk hf
   have e0 : ev (.tmp 63) = _ := hf.1
   have e1 : ev (.tmp 70) = _ := hf.2.1
   have e2 : ev (.tmp 73) = _ := hf.2.2.1
   exact OpOk.r (by simp [execOp, e0, e1, e2, Hb.out X])
 intro w18 hX
 rintro _ rfl _ rfl _ rfl _ rfl _ rfl _ rfl _ rfl _ rfl _ rfl _ rfl _ rfl _ rfl _ rfl _ rfl _ rfl _ rfl
 obtain ⟨H18, S18⟩ := nx H17.out S17.out hX
 clear hX H17 S17
 go_wp2
 refine Rest.done ?_
 have gR := on_blk_mul H18.out.right.right.right.right.right.right.right.right
 have HB := hide (all_below H18.out.right.right.right.right.right.right.right.right.right.right.right.right S18.out)
 go_wp2_with (first
  | (refine wS gR HsRR HzRR HoRR ?_))
 refine hK14.out _ _ ?_
 clear hK14 K14
 go_wp2_with fail
 exact retR Tryd.results13 gR hum HsRR.out rfl HB.out (by omega)
theorem madd_any (s t : Ed.Tp) (w : World) : Calls Tryd.prog 13 #[.agg (tpC s), .agg (tpC t), .agg (n17 Ed.dN)] w fun e w' => e = .returned (.agg (tpC (s.add t))) ∧ Below w.heap.size w w' := by
 have h := madd_nat _ _ _ _ _ _ s.x.isLt s.y.isLt s.z.isLt t.x.isLt t.y.isLt t.z.isLt Ed.dN (by decide) w
 unfold tpC Ed.Tp.add Ed.tpMix
 simp only [Ed.val_mul, Ed.val_add, Ed.val_sub, Ed.d5_val]
 exact h
end Cv
end Go.Proofs.YtbplbdnofobbiaaDoor
