/- A part. -/
import Derived.Test.YtjdebgbiockafaaGreatDoorGCvB
set_option linter.unusedVariables false
set_option linter.unusedSimpArgs false
set_option maxRecDepth 100000
set_option maxHeartbeats 8000000
namespace Go.Proofs.YtjdebgbiockafaaGreatDoor
namespace Cv
open Fe
open Go.ChangeShapes Go.WideShapes Go.ChangeAt Go.RowKit
def mC (x y z : Nat) : Array Value := dvs (ds 17 x ++ (ds 17 y ++ ds 17 z))
theorem mC_size (x y z : Nat) : (mC x y z).size = 51 := by unfold mC; rw [dvs_size]; simp only [List.length_append, ds_len]
theorem mC_one (x y z : Nat) : (mC x y z).all (·.oneCell') = true := dvs_one _
theorem mInfo (x y z : Nat) : (Tryz.prog.info? 58).map (·.size) = some (mC x y z).size := by rw [mC_size]; kernel_rfl
theorem mSize (x y z x2 y2 z2 : Nat) : (mC x y z).size = (mC x2 y2 z2).size := by rw [mC_size, mC_size]
theorem ds_lit (n : Nat) : ds 17 n = [dg n 0, dg n 1, dg n 2, dg n 3, dg n 4, dg n 5, dg n 6, dg n 7, dg n 8, dg n 9, dg n 10, dg n 11, dg n 12, dg n 13, dg n 14, dg n 15, dg n 16] := rfl
theorem dg_0 (k : Nat) : dg 0 k = 0 := by unfold dg; rw [Nat.zero_div]
theorem mZero (w : World) : (zeroValue 58).run Tryz.prog w = .ok (.agg (mC 0 0 0)) w := by
 unfold mC
 rw [ds_lit]
 simp only [dg_0]
 kernel_rfl
theorem dvs_part (a b c : List Nat) (j : Nat) (v : Value) (h : (dvs b)[j]? = some v) : (dvs (a ++ (b ++ c)))[a.length + j]? = some v := by
 have hj : j < b.length := by
  have := (Array.getElem?_eq_some_iff.1 h).1
  rwa [dvs_size] at this
 have h2 : (b.map nv)[j]? = some v := by simpa [dvs] using h
 unfold dvs
 rw [List.getElem?_toArray, List.map_append, List.map_append, List.getElem?_append_right (by rw [List.length_map]; omega), List.length_map, Nat.add_sub_cancel_left, List.getElem?_append_left (by rw [List.length_map]; exact hj)]
 exact h2
theorem mC_x (x y z j : Nat) (v : Value) (h : (n17 x)[j]? = some v) : (mC x y z)[0 + j]? = some v := dvs_part [] (ds 17 x) _ j v h
theorem mC_y (x y z j : Nat) (v : Value) (h : (n17 y)[j]? = some v) : (mC x y z)[17 + j]? = some v := by
 have := dvs_part (ds 17 x) (ds 17 y) (ds 17 z) j v h
 rwa [ds_len] at this
theorem mC_z (x y z j : Nat) (v : Value) (h : (n17 z)[j]? = some v) : (mC x y z)[34 + j]? = some v := by
 have := dvs_part (ds 17 x ++ ds 17 y) (ds 17 z) [] j v h
 rw [List.append_nil, List.append_assoc, List.length_append, ds_len, ds_len] at this
 exact this
theorem n17_lit (n : Nat) : n17 n = #[nv (dg n 0), nv (dg n 1), nv (dg n 2), nv (dg n 3), nv (dg n 4), nv (dg n 5), nv (dg n 6), nv (dg n 7), nv (dg n 8), nv (dg n 9), nv (dg n 10), nv (dg n 11), nv (dg n 12), nv (dg n 13), nv (dg n 14), nv (dg n 15), nv (dg n 16)] := rfl
theorem mC_lit (x y z : Nat) : mC x y z = #[nv (dg x 0), nv (dg x 1), nv (dg x 2), nv (dg x 3), nv (dg x 4), nv (dg x 5), nv (dg x 6), nv (dg x 7), nv (dg x 8), nv (dg x 9), nv (dg x 10), nv (dg x 11), nv (dg x 12), nv (dg x 13), nv (dg x 14), nv (dg x 15), nv (dg x 16),
 nv (dg y 0), nv (dg y 1), nv (dg y 2), nv (dg y 3), nv (dg y 4), nv (dg y 5), nv (dg y 6), nv (dg y 7), nv (dg y 8), nv (dg y 9), nv (dg y 10), nv (dg y 11), nv (dg y 12), nv (dg y 13), nv (dg y 14), nv (dg y 15), nv (dg y 16),
 nv (dg z 0), nv (dg z 1), nv (dg z 2), nv (dg z 3), nv (dg z 4), nv (dg z 5), nv (dg z 6), nv (dg z 7), nv (dg z 8), nv (dg z 9), nv (dg z 10), nv (dg z 11), nv (dg z 12), nv (dg z 13), nv (dg z 14), nv (dg z 15), nv (dg z 16)] := rfl
theorem run_bm (x y z : Nat) (w : World) : (Instr.build 58 #[(0, .agg (n17 x)), (1, .agg (n17 y)), (2, .agg (n17 z))]).run Tryz.prog w = .ok (.agg (mC x y z)) w := by
 rw [n17_lit, n17_lit, n17_lit, mC_lit]; kernel_rfl
theorem rsm (n : Nat) (h : n < P5) (h2 : n ≤ 1152921504606846976) (X : World) : Calls Tryz.prog 44 #[.int .i64 (n : Int)] X fun e w' => e = .returned (.agg (n17 n)) ∧ Below X.heap.size X w' := by
 have := rsmall_any n h2 X
 rwa [Nat.mod_eq_of_lt h] at this
theorem lt255 {a : Nat} (h : a < P5) : a < 2 ^ 255 := by have := Ed.P5_255; omega
theorem rmul5 (a b : Nat) (ha : a < P5) (hb : b < P5) (X : World) : Calls Tryz.prog 38 #[.agg (n17 a), .agg (n17 b)] X fun e w' => e = .returned (.agg (n17 (a * b % P5))) ∧ Below X.heap.size X w' := rmul_any a b (lt255 ha) (lt255 hb) X
theorem radd5 (a b : Nat) (ha : a < P5) (hb : b < P5) (X : World) : Calls Tryz.prog 45 #[.agg (n17 a), .agg (n17 b)] X fun e w' => e = .returned (.agg (n17 ((a + b) % P5))) ∧ Below X.heap.size X w' := radd_any a b (lt255 ha) (lt255 hb) X
def tpC (s : Ed.Tp) : Array Value := mC s.x.val s.y.val s.z.val
theorem mnone_any (w : World) : Calls Tryz.prog 40 #[] w fun e w' => e = .returned (.agg (tpC Ed.Tp.none)) ∧ Below w.heap.size w w' := by
 show Calls _ _ _ _ fun e w' => e = .returned (.agg (mC 0 1 1)) ∧ Below w.heap.size w w'
 have hum := Tryz.underlying58
 have hun := Tryz.underlying56
 have hzM := mZero
 have hzN := nZero
 have h0 := (on_all w).alloc (.cells (mC 0 0 0) 58)
 have s0 := (Str.refl w).alloc (.cells (mC 0 0 0) 58)
 try simp only [World.size_alloc] at h0
 have H1 := hide h0
 have S1 := hide s0
 clear h0 s0
 have Hb := hide (fun X => run_bm 0 1 1 X)
 have H0s := hide (fun X => rsm 0 (by decide) (by decide) X)
 have H1s := hide (fun X => rsm 1 (by decide) (by decide) X)
 obtain ⟨HsR, HoR, HzR⟩ := b3 (mInfo 0 1 1) (mC_one 0 1 1) (mSize 0 0 0 0 1 1)
 obtain ⟨HsN0, HoN0, HzN0⟩ := nF 0
 obtain ⟨HsN1, HoN1, HzN1⟩ := nF 1
 generalize mC 0 1 1 = R at *
 generalize n17 0 = N0 at *
 generalize n17 1 = N1 at *
 generalize mC 0 0 0 = Zm at *
 generalize n17 0 = Zn at *
 go_enter Tryz.func40, Tryz.ntmps40
 refine wp_seq_h fun K1 hK1 => ?_
 go_wp2
 refine hK1.out _ _ ?_
 clear hK1 K1
 generalize w.alloc (.cells Zm 58) = w1 at *
 refine wp_seq_h fun K2 hK2 => ?_
 refine sQ 4 (iv [.agg N0, .agg N1, .agg N1, .agg R]) ?t1 ?r1
 case' t1 => refine ⟨?_, ?_, ?_, ?_, trivial⟩ <;> intro ev X hT hb hk hf
 ·exact OpOk.c0 hb (H0s.out X)
 ·exact OpOk.c0 hb (H1s.out X)
 ·exact OpOk.c0 hb (H1s.out X)
 ·exact OpOk.r (by simp [execOp, fX ev 1 hf.1, fX ev 2 hf.2.1, fX ev 3 hf.2.2.1, Hb.out X])
 intro w2 hX
 rintro _ rfl _ rfl _ rfl _ rfl
 obtain ⟨H2, S2⟩ := nx H1.out S1.out hX
 clear hX H1 S1
 go_wp2
 refine Rest.done ?_
 have gR := on_blk_mul H2.out
 have HB := hide (all_below H2.out.right S2.out)
 go_wp2_with (first
  | (refine wS gR HsR HzR HoR ?_))
 refine hK2.out _ _ ?_
 clear hK2 K2
 go_wp2
 exact retR Tryz.results40 gR hum HsR.out rfl HB.out (by omega)
theorem madd_nat (px py pz qx qy qz : Nat) (bpx : px < P5) (bpy : py < P5) (bpz : pz < P5) (bqx : qx < P5) (bqy : qy < P5) (bqz : qz < P5) (d : Nat) (bd : d < P5) (w : World) :
  Calls Tryz.prog 41 #[.agg (mC px py pz), .agg (mC qx qy qz), .agg (n17 d)] w fun e w' => e = .returned (.agg (mC
   (pz * qz % P5 * ((pz * qz % P5 * (pz * qz % P5) % P5 + (P5 - d * (px * qx % P5 * (py * qy % P5) % P5) % P5)) % P5) % P5 * ((((px + py) % P5 * ((qx + qy) % P5) % P5 + (P5 - px * qx % P5)) % P5 + (P5 - py * qy % P5)) % P5) % P5)
   (pz * qz % P5 * ((pz * qz % P5 * (pz * qz % P5) % P5 + d * (px * qx % P5 * (py * qy % P5) % P5) % P5) % P5) % P5 * ((py * qy % P5 + px * qx % P5) % P5) % P5)
   ((pz * qz % P5 * (pz * qz % P5) % P5 + (P5 - d * (px * qx % P5 * (py * qy % P5) % P5) % P5)) % P5 * ((pz * qz % P5 * (pz * qz % P5) % P5 + d * (px * qx % P5 * (py * qy % P5) % P5) % P5) % P5) % P5))) ∧ Below w.heap.size w w' := by
 have hum := Tryz.underlying58
 have hun := Tryz.underlying56
 have hzM := mZero
 have hzN := nZero
 have h0 := ((((on_all w).alloc (.cells (mC px py pz) 58)).alloc (.cells (mC qx qy qz) 58)).alloc (.cells (n17 d) 56)).alloc (.cells (mC 0 0 0) 58)
 have s0 := ((((Str.refl w).alloc (.cells (mC px py pz) 58)).alloc (.cells (mC qx qy qz) 58)).alloc (.cells (n17 d) 56)).alloc (.cells (mC 0 0 0) 58)
 try simp only [World.size_alloc] at h0
 have H1 := hide h0
 have S1 := hide s0
 clear h0 s0
 have kMul_pz_qz0 := fun X => rmul5 pz qz bpz bqz X
 have ba : pz * qz % P5 < P5 := Nat.mod_lt _ P5_pos
 generalize hea : pz * qz % P5 = a at *
 have Hea := hide hea
 clear hea
 have kMul_pz_qz := hide kMul_pz_qz0
 clear kMul_pz_qz0
 have kMul_a_a0 := fun X => rmul5 a a ba ba X
 have bb : a * a % P5 < P5 := Nat.mod_lt _ P5_pos
 generalize heb : a * a % P5 = b at *
 have Heb := hide heb
 clear heb
 have kMul_a_a := hide kMul_a_a0
 clear kMul_a_a0
 have kMul_px_qx0 := fun X => rmul5 px qx bpx bqx X
 have bc : px * qx % P5 < P5 := Nat.mod_lt _ P5_pos
 generalize hec : px * qx % P5 = c at *
 have Hec := hide hec
 clear hec
 have kMul_px_qx := hide kMul_px_qx0
 clear kMul_px_qx0
 have kMul_py_qy0 := fun X => rmul5 py qy bpy bqy X
 have be : py * qy % P5 < P5 := Nat.mod_lt _ P5_pos
 generalize hee : py * qy % P5 = e at *
 have Hee := hide hee
 clear hee
 have kMul_py_qy := hide kMul_py_qy0
 clear kMul_py_qy0
 have kMul_c_e0 := fun X => rmul5 c e bc be X
 have bce : c * e % P5 < P5 := Nat.mod_lt _ P5_pos
 generalize hece : c * e % P5 = ce at *
 have Hece := hide hece
 clear hece
 have kMul_c_e := hide kMul_c_e0
 clear kMul_c_e0
 have kMul_d_ce0 := fun X => rmul5 d ce bd bce X
 have bf : d * ce % P5 < P5 := Nat.mod_lt _ P5_pos
 generalize hef : d * ce % P5 = f at *
 have Hef := hide hef
 clear hef
 have kMul_d_ce := hide kMul_d_ce0
 clear kMul_d_ce0
 have kSub_b_f0 := fun X => rsub_any b f bb bf X
 have bg : (b + (P5 - f)) % P5 < P5 := Nat.mod_lt _ P5_pos
 generalize heg : (b + (P5 - f)) % P5 = g at *
 have Heg := hide heg
 clear heg
 have kSub_b_f := hide kSub_b_f0
 clear kSub_b_f0
 have kAdd_b_f0 := fun X => radd5 b f bb bf X
 have bh : (b + f) % P5 < P5 := Nat.mod_lt _ P5_pos
 generalize heh : (b + f) % P5 = h at *
 have Heh := hide heh
 clear heh
 have kAdd_b_f := hide kAdd_b_f0
 clear kAdd_b_f0
 have kAdd_px_py0 := fun X => radd5 px py bpx bpy X
 have bs1 : (px + py) % P5 < P5 := Nat.mod_lt _ P5_pos
 generalize hes1 : (px + py) % P5 = s1 at *
 have Hes1 := hide hes1
 clear hes1
 have kAdd_px_py := hide kAdd_px_py0
 clear kAdd_px_py0
 have kAdd_qx_qy0 := fun X => radd5 qx qy bqx bqy X
 have bs2 : (qx + qy) % P5 < P5 := Nat.mod_lt _ P5_pos
 generalize hes2 : (qx + qy) % P5 = s2 at *
 have Hes2 := hide hes2
 clear hes2
 have kAdd_qx_qy := hide kAdd_qx_qy0
 clear kAdd_qx_qy0
 have kMul_s1_s20 := fun X => rmul5 s1 s2 bs1 bs2 X
 have bm : s1 * s2 % P5 < P5 := Nat.mod_lt _ P5_pos
 generalize hem : s1 * s2 % P5 = m at *
 have Hem := hide hem
 clear hem
 have kMul_s1_s2 := hide kMul_s1_s20
 clear kMul_s1_s20
 have kSub_m_c0 := fun X => rsub_any m c bm bc X
 have bm1 : (m + (P5 - c)) % P5 < P5 := Nat.mod_lt _ P5_pos
 generalize hem1 : (m + (P5 - c)) % P5 = m1 at *
 have Hem1 := hide hem1
 clear hem1
 have kSub_m_c := hide kSub_m_c0
 clear kSub_m_c0
 have kSub_m1_e0 := fun X => rsub_any m1 e bm1 be X
 have bcr : (m1 + (P5 - e)) % P5 < P5 := Nat.mod_lt _ P5_pos
 generalize hecr : (m1 + (P5 - e)) % P5 = cr at *
 have Hecr := hide hecr
 clear hecr
 have kSub_m1_e := hide kSub_m1_e0
 clear kSub_m1_e0
 have kMul_a_g0 := fun X => rmul5 a g ba bg X
 have bag : a * g % P5 < P5 := Nat.mod_lt _ P5_pos
 generalize heag : a * g % P5 = ag at *
 have Heag := hide heag
 clear heag
 have kMul_a_g := hide kMul_a_g0
 clear kMul_a_g0
 have kMul_ag_cr0 := fun X => rmul5 ag cr bag bcr X
 have brx : ag * cr % P5 < P5 := Nat.mod_lt _ P5_pos
 generalize herx : ag * cr % P5 = rx at *
 have Herx := hide herx
 clear herx
 have kMul_ag_cr := hide kMul_ag_cr0
 clear kMul_ag_cr0
 have kMul_a_h0 := fun X => rmul5 a h ba bh X
 have bah : a * h % P5 < P5 := Nat.mod_lt _ P5_pos
 generalize heah : a * h % P5 = ah at *
 have Heah := hide heah
 clear heah
 have kMul_a_h := hide kMul_a_h0
 clear kMul_a_h0
 have kAdd_e_c0 := fun X => radd5 e c be bc X
 have bec : (e + c) % P5 < P5 := Nat.mod_lt _ P5_pos
 generalize heec : (e + c) % P5 = ec at *
 have Heec := hide heec
 clear heec
 have kAdd_e_c := hide kAdd_e_c0
 clear kAdd_e_c0
 have kMul_ah_ec0 := fun X => rmul5 ah ec bah bec X
 have bry : ah * ec % P5 < P5 := Nat.mod_lt _ P5_pos
 generalize hery : ah * ec % P5 = ry at *
 have Hery := hide hery
 clear hery
 have kMul_ah_ec := hide kMul_ah_ec0
 clear kMul_ah_ec0
 have kMul_g_h0 := fun X => rmul5 g h bg bh X
 have brz : g * h % P5 < P5 := Nat.mod_lt _ P5_pos
 generalize herz : g * h % P5 = rz at *
 have Herz := hide herz
 clear herz
 have kMul_g_h := hide kMul_g_h0
 clear kMul_g_h0
 have Hb := hide (fun X => run_bm rx ry rz X)
 obtain ⟨HsPP, HoPP, HzPP⟩ := b3 (mInfo px py pz) (mC_one px py pz) (mSize 0 0 0 px py pz)
 have HpPP_0 := hide (mC_x px py pz)
 have HpPP_17 := hide (mC_y px py pz)
 have HpPP_34 := hide (mC_z px py pz)
 obtain ⟨HsQQ, HoQQ, HzQQ⟩ := b3 (mInfo qx qy qz) (mC_one qx qy qz) (mSize 0 0 0 qx qy qz)
 have HpQQ_0 := hide (mC_x qx qy qz)
 have HpQQ_17 := hide (mC_y qx qy qz)
 have HpQQ_34 := hide (mC_z qx qy qz)
 obtain ⟨HsRR, HoRR, HzRR⟩ := b3 (mInfo rx ry rz) (mC_one rx ry rz) (mSize 0 0 0 rx ry rz)
 obtain ⟨HsPX, HoPX, HzPX⟩ := nF px
 obtain ⟨HsPY, HoPY, HzPY⟩ := nF py
 obtain ⟨HsPZ, HoPZ, HzPZ⟩ := nF pz
 obtain ⟨HsQX, HoQX, HzQX⟩ := nF qx
 obtain ⟨HsQY, HoQY, HzQY⟩ := nF qy
 obtain ⟨HsQZ, HoQZ, HzQZ⟩ := nF qz
 obtain ⟨HsDd, HoDd, HzDd⟩ := nF d
 obtain ⟨HsVa, HoVa, HzVa⟩ := nF a
 obtain ⟨HsVb, HoVb, HzVb⟩ := nF b
 obtain ⟨HsVc, HoVc, HzVc⟩ := nF c
 obtain ⟨HsVe, HoVe, HzVe⟩ := nF e
 obtain ⟨HsVce, HoVce, HzVce⟩ := nF ce
 obtain ⟨HsVf, HoVf, HzVf⟩ := nF f
 obtain ⟨HsVg, HoVg, HzVg⟩ := nF g
 obtain ⟨HsVh, HoVh, HzVh⟩ := nF h
 obtain ⟨HsVs1, HoVs1, HzVs1⟩ := nF s1
 obtain ⟨HsVs2, HoVs2, HzVs2⟩ := nF s2
 obtain ⟨HsVm, HoVm, HzVm⟩ := nF m
 obtain ⟨HsVm1, HoVm1, HzVm1⟩ := nF m1
 obtain ⟨HsVcr, HoVcr, HzVcr⟩ := nF cr
 obtain ⟨HsVag, HoVag, HzVag⟩ := nF ag
 obtain ⟨HsVrx, HoVrx, HzVrx⟩ := nF rx
 obtain ⟨HsVah, HoVah, HzVah⟩ := nF ah
 obtain ⟨HsVec, HoVec, HzVec⟩ := nF ec
 obtain ⟨HsVry, HoVry, HzVry⟩ := nF ry
 obtain ⟨HsVrz, HoVrz, HzVrz⟩ := nF rz
 clear ba bb bc be bce bf bg bh bs1 bs2 bm bm1 bcr bag brx bah bec bry brz bpx bpy bpz bqx bqy bqz bd
 generalize mC px py pz = PP at *
 generalize mC qx qy qz = QQ at *
 generalize mC rx ry rz = RR at *
 generalize n17 px = PX at *
 generalize n17 py = PY at *
 generalize n17 pz = PZ at *
 generalize n17 qx = QX at *
 generalize n17 qy = QY at *
 generalize n17 qz = QZ at *
 generalize n17 d = Dd at *
 generalize n17 a = Va at *
 generalize n17 b = Vb at *
 generalize n17 c = Vc at *
 generalize n17 e = Ve at *
 generalize n17 ce = Vce at *
 generalize n17 f = Vf at *
 generalize n17 g = Vg at *
 generalize n17 h = Vh at *
 generalize n17 s1 = Vs1 at *
 generalize n17 s2 = Vs2 at *
 generalize n17 m = Vm at *
 generalize n17 m1 = Vm1 at *
 generalize n17 cr = Vcr at *
 generalize n17 ag = Vag at *
 generalize n17 rx = Vrx at *
 generalize n17 ah = Vah at *
 generalize n17 ec = Vec at *
 generalize n17 ry = Vry at *
 generalize n17 rz = Vrz at *
 generalize mC 0 0 0 = Zm at *
 generalize n17 0 = Zn at *
 go_enter Tryz.func41, Tryz.ntmps41
 refine wp_seq_h fun K5 hK5 => ?_
 go_wp2
 refine hK5.out _ _ ?_
 clear hK5 K5
 generalize (((w.alloc (.cells PP 58)).alloc (.cells QQ 58)).alloc (.cells Dd 56)).alloc (.cells Zm 58) = w1 at *
 refine wp_seq_h fun K6 hK6 => ?_
 refine sQ 6 [isV (.pointer (some ⟨w.heap.size, 34, .none⟩)), isV (.agg PZ), isV (.pointer (some ⟨w.heap.size + 1, 34, .none⟩)), isV (.agg QZ), isV (.agg Va), Fresh w1.heap.size (.cells Zn 56 (0, 0))] ?t2 ?r2
 case' t2 => refine ⟨?_, ?_, ?_, ?_, ?_, ?_, trivial⟩ <;> intro ev X hT hb hk hf
 ·exact OpOk.s (fV ev 3 (.pointer (some ⟨w.heap.size, 0, .none⟩)) hk.1) hb
 ·exact OpOk.lp (fX ev 15 hf.1) (rowPart (on_blk_mul (H1.out.below hT).right.right.right) HpPP_34.out) hun HsPZ.out
 ·exact OpOk.s (fV ev 4 (.pointer (some ⟨w.heap.size + 1, 0, .none⟩)) hk.1) hb
 ·exact OpOk.lp (fX ev 17 hf.1) (rowPart (on_blk_mul (H1.out.below hT).right.right) HpQQ_34.out) hun HsQZ.out
 ·exact OpOk.c2 (fX ev 16 hf.1) (fX ev 18 hf.2.1) hb (kMul_pz_qz.out X)
 ·exact OpOk.al hT.size (by simp [execOp, hzN, go_sem])
 intro w2 hX
 rintro _ rfl _ rfl _ rfl _ rfl _ rfl _ ⟨g7, rfl, hgg7, hcg7⟩
 have H2 := hide (on_fresh H1.out hX hgg7 hcg7)
 have S2 := hide (S1.out.trans (Str.below hX))
 clear hX H1 S1 hgg7 hcg7
 go_wp2
 refine Rest.done ?_
 have H3 := hide (st0 H2.out (cs := Va))
 have S3 := hide (S2.out.setRow (g7) Va)
 have gW := on_blk_mul H2.out
 go_wp2_with (first
  | (refine wS gW HsVa HzVa HoVa ?_))
 refine hK6.out _ _ ?_
 clear hK6 K6
 generalize w2.setRow (g7) Va = w3 at *
 clear gW H2 S2
 refine wp_seq_h fun K7 hK7 => ?_
 refine sQ 4 [isV (.agg Va), isV (.agg Va), isV (.agg Vb), Fresh w3.heap.size (.cells Zn 56 (0, 0))] ?t3 ?r3
 case' t3 => refine ⟨?_, ?_, ?_, ?_, trivial⟩ <;> intro ev X hT hb hk hf
 ·exact OpOk.l (x := .tmp 7) hk.1 (on_blk_mul (H3.out.below hT)) hun HsVa.out
 ·exact OpOk.l (x := .tmp 7) hk.1 (on_blk_mul (H3.out.below hT)) hun HsVa.out
 ·exact OpOk.c2 (fX ev 20 hf.1) (fX ev 21 hf.2.1) hb (kMul_a_a.out X)
 ·exact OpOk.al hT.size (by simp [execOp, hzN, go_sem])
 intro w4 hX
 rintro _ rfl _ rfl _ rfl _ ⟨g8, rfl, hgg8, hcg8⟩
 have H4 := hide (on_fresh H3.out hX hgg8 hcg8)
 have S4 := hide (S3.out.trans (Str.below hX))
 clear hX H3 S3 hgg8 hcg8
 go_wp2
 refine Rest.done ?_
 have H5 := hide (st0 H4.out (cs := Vb))
 have S5 := hide (S4.out.setRow (g8) Vb)
 have gW := on_blk_mul H4.out
 go_wp2_with (first
  | (refine wS gW HsVb HzVb HoVb ?_))
 refine hK7.out _ _ ?_
 clear hK7 K7
 generalize w4.setRow (g8) Vb = w5 at *
 clear gW H4 S4
 refine wp_seq_h fun K8 hK8 => ?_
 refine sQ 6 [isV (.pointer (some ⟨w.heap.size, 0, .none⟩)), isV (.agg PX), isV (.pointer (some ⟨w.heap.size + 1, 0, .none⟩)), isV (.agg QX), isV (.agg Vc), Fresh w5.heap.size (.cells Zn 56 (0, 0))] ?t4 ?r4
 case' t4 => refine ⟨?_, ?_, ?_, ?_, ?_, ?_, trivial⟩ <;> intro ev X hT hb hk hf
 ·exact OpOk.s (fV ev 3 (.pointer (some ⟨w.heap.size, 0, .none⟩)) hk.1) hb
 ·exact OpOk.lp (fX ev 23 hf.1) (rowPart (on_blk_mul (H5.out.below hT).right.right.right.right.right) HpPP_0.out) hun HsPX.out
 ·exact OpOk.s (fV ev 4 (.pointer (some ⟨w.heap.size + 1, 0, .none⟩)) hk.1) hb
 ·exact OpOk.lp (fX ev 25 hf.1) (rowPart (on_blk_mul (H5.out.below hT).right.right.right.right) HpQQ_0.out) hun HsQX.out
 ·exact OpOk.c2 (fX ev 24 hf.1) (fX ev 26 hf.2.1) hb (kMul_px_qx.out X)
 ·exact OpOk.al hT.size (by simp [execOp, hzN, go_sem])
 intro w6 hX
 rintro _ rfl _ rfl _ rfl _ rfl _ rfl _ ⟨g9, rfl, hgg9, hcg9⟩
 have H6 := hide (on_fresh H5.out hX hgg9 hcg9)
 have S6 := hide (S5.out.trans (Str.below hX))
 clear hX H5 S5 hgg9 hcg9
 go_wp2
 refine Rest.done ?_
 have H7 := hide (st0 H6.out (cs := Vc))
 have S7 := hide (S6.out.setRow (g9) Vc)
 have gW := on_blk_mul H6.out
 go_wp2_with (first
  | (refine wS gW HsVc HzVc HoVc ?_))
 refine hK8.out _ _ ?_
 clear hK8 K8
 generalize w6.setRow (g9) Vc = w7 at *
 clear gW H6 S6
 refine wp_seq_h fun K9 hK9 => ?_
 refine sQ 6 [isV (.pointer (some ⟨w.heap.size, 17, .none⟩)), isV (.agg PY), isV (.pointer (some ⟨w.heap.size + 1, 17, .none⟩)), isV (.agg QY), isV (.agg Ve), Fresh w7.heap.size (.cells Zn 56 (0, 0))] ?t5 ?r5
 case' t5 => refine ⟨?_, ?_, ?_, ?_, ?_, ?_, trivial⟩ <;> intro ev X hT hb hk hf
 ·exact OpOk.s (fV ev 3 (.pointer (some ⟨w.heap.size, 0, .none⟩)) hk.1) hb
 ·exact OpOk.lp (fX ev 28 hf.1) (rowPart (on_blk_mul (H7.out.below hT).right.right.right.right.right.right) HpPP_17.out) hun HsPY.out
 ·exact OpOk.s (fV ev 4 (.pointer (some ⟨w.heap.size + 1, 0, .none⟩)) hk.1) hb
 ·exact OpOk.lp (fX ev 30 hf.1) (rowPart (on_blk_mul (H7.out.below hT).right.right.right.right.right) HpQQ_17.out) hun HsQY.out
 ·exact OpOk.c2 (fX ev 29 hf.1) (fX ev 31 hf.2.1) hb (kMul_py_qy.out X)
 ·exact OpOk.al hT.size (by simp [execOp, hzN, go_sem])
 intro w8 hX
 rintro _ rfl _ rfl _ rfl _ rfl _ rfl _ ⟨g10, rfl, hgg10, hcg10⟩
 have H8 := hide (on_fresh H7.out hX hgg10 hcg10)
 have S8 := hide (S7.out.trans (Str.below hX))
 clear hX H7 S7 hgg10 hcg10
 go_wp2
 refine Rest.done ?_
 have H9 := hide (st0 H8.out (cs := Ve))
 have S9 := hide (S8.out.setRow (g10) Ve)
 have gW := on_blk_mul H8.out
 go_wp2_with (first
  | (refine wS gW HsVe HzVe HoVe ?_))
 refine hK9.out _ _ ?_
 clear hK9 K9
 generalize w8.setRow (g10) Ve = w9 at *
 clear gW H8 S8
 refine wp_seq_h fun K10 hK10 => ?_
 refine wp_tail 6 [isV (.agg Dd), isV (.agg Vc), isV (.agg Ve), isV (.agg Vce), isV (.agg Vf), Fresh w9.heap.size (.cells Zn 56 (0, 0))] ?t6 ?r6 (hk := kF)
 case' t6 => refine ⟨?_, ?_, ?_, ?_, ?_, ?_, trivial⟩ <;> intro ev X hT hb hk hf
 ·exact OpOk.l (x := .tmp 5) hk.1 (on_blk_mul (H9.out.below hT).right.right.right.right.right) hun HsDd.out
 ·exact OpOk.l (x := .tmp 9) hk.1 (on_blk_mul (H9.out.below hT).right) hun HsVc.out
 ·exact OpOk.l (x := .tmp 10) hk.1 (on_blk_mul (H9.out.below hT)) hun HsVe.out
 ·exact OpOk.c2 (fX ev 34 hf.1) (fX ev 35 hf.2.1) hb (kMul_c_e.out X)
 ·exact OpOk.c2 (fX ev 33 hf.1) (fX ev 36 hf.2.1) hb (kMul_d_ce.out X)
 ·exact OpOk.al hT.size (by simp [execOp, hzN, go_sem])
 intro w10 hX
 rintro _ rfl _ rfl _ rfl _ rfl _ rfl _ ⟨g11, rfl, hgg11, hcg11⟩
 have H10 := hide (on_fresh H9.out hX hgg11 hcg11)
 have S10 := hide (S9.out.trans (Str.below hX))
 clear hX H9 S9 hgg11 hcg11
 go_wp2
 refine Rest.done ?_
 have H11 := hide (st0 H10.out (cs := Vf))
 have S11 := hide (S10.out.setRow (g11) Vf)
 have gW := on_blk_mul H10.out
 go_wp2_with (first
  | (refine wS gW HsVf HzVf HoVf ?_))
 refine hK10.out _ _ ?_
 clear hK10 K10
 generalize w10.setRow (g11) Vf = w11 at *
 clear gW H10 S10
 refine wp_seq_h fun K11 hK11 => ?_
 refine sQ 4 [isV (.agg Vb), isV (.agg Vf), isV (.agg Vg), Fresh w11.heap.size (.cells Zn 56 (0, 0))] ?t7 ?r7
 case' t7 => refine ⟨?_, ?_, ?_, ?_, trivial⟩ <;> intro ev X hT hb hk hf
 ·exact OpOk.l (x := .tmp 8) hk.1 (on_blk_mul (H11.out.below hT).right.right.right) hun HsVb.out
 ·exact OpOk.l (x := .tmp 11) hk.1 (on_blk_mul (H11.out.below hT)) hun HsVf.out
 ·exact OpOk.c2 (fX ev 38 hf.1) (fX ev 39 hf.2.1) hb (kSub_b_f.out X)
 ·exact OpOk.al hT.size (by simp [execOp, hzN, go_sem])
 intro w12 hX
 rintro _ rfl _ rfl _ rfl _ ⟨g12, rfl, hgg12, hcg12⟩
 have H12 := hide (on_fresh H11.out hX hgg12 hcg12)
 have S12 := hide (S11.out.trans (Str.below hX))
 clear hX H11 S11 hgg12 hcg12
 go_wp2
 refine Rest.done ?_
 have H13 := hide (st0 H12.out (cs := Vg))
 have S13 := hide (S12.out.setRow (g12) Vg)
 have gW := on_blk_mul H12.out
 go_wp2_with (first
  | (refine wS gW HsVg HzVg HoVg ?_))
 refine hK11.out _ _ ?_
 clear hK11 K11
 generalize w12.setRow (g12) Vg = w13 at *
 clear gW H12 S12
 refine wp_seq_h fun K12 hK12 => ?_
 refine sQ 4 [isV (.agg Vb), isV (.agg Vf), isV (.agg Vh), Fresh w13.heap.size (.cells Zn 56 (0, 0))] ?t8 ?r8
 case' t8 => refine ⟨?_, ?_, ?_, ?_, trivial⟩ <;> intro ev X hT hb hk hf
 ·exact OpOk.l (x := .tmp 8) hk.1 (on_blk_mul (H13.out.below hT).right.right.right.right) hun HsVb.out
 ·exact OpOk.l (x := .tmp 11) hk.1 (on_blk_mul (H13.out.below hT).right) hun HsVf.out
 ·exact OpOk.c2 (fX ev 41 hf.1) (fX ev 42 hf.2.1) hb (kAdd_b_f.out X)
 ·exact OpOk.al hT.size (by simp [execOp, hzN, go_sem])
 intro w14 hX
 rintro _ rfl _ rfl _ rfl _ ⟨g13, rfl, hgg13, hcg13⟩
 have H14 := hide (on_fresh H13.out hX hgg13 hcg13)
 have S14 := hide (S13.out.trans (Str.below hX))
 clear hX H13 S13 hgg13 hcg13
 go_wp2
 refine Rest.done ?_
 have H15 := hide (st0 H14.out (cs := Vh))
 have S15 := hide (S14.out.setRow (g13) Vh)
 have gW := on_blk_mul H14.out
 go_wp2_with (first
  | (refine wS gW HsVh HzVh HoVh ?_))
 refine hK12.out _ _ ?_
 clear hK12 K12
 generalize w14.setRow (g13) Vh = w15 at *
 clear gW H14 S14
 refine wp_seq_h fun K13 hK13 => ?_
 refine wp_tail 16 [isV (.pointer (some ⟨w.heap.size, 0, .none⟩)), isV (.agg PX), isV (.pointer (some ⟨w.heap.size, 17, .none⟩)), isV (.agg PY), isV (.agg Vs1), isV (.pointer (some ⟨w.heap.size + 1, 0, .none⟩)), isV (.agg QX), isV (.pointer (some ⟨w.heap.size + 1, 17, .none⟩)), isV (.agg QY), isV (.agg Vs2), isV (.agg Vm), isV (.agg Vc), isV (.agg Vm1), isV (.agg Ve), isV (.agg Vcr), Fresh w15.heap.size (.cells Zn 56 (0, 0))] ?t9 ?r9 (hk := kF)
 case' t9 => refine ⟨?_, ?_, ?_, ?_, ?_, ?_, ?_, ?_, ?_, ?_, ?_, ?_, ?_, ?_, ?_, ?_, trivial⟩ <;> intro ev X hT hb hk hf
 ·exact OpOk.s (fV ev 3 (.pointer (some ⟨w.heap.size, 0, .none⟩)) hk.1) hb
 ·exact OpOk.lp (fX ev 44 hf.1) (rowPart (on_blk_mul (H15.out.below hT).right.right.right.right.right.right.right.right.right.right) HpPP_0.out) hun HsPX.out
 ·exact OpOk.s (fV ev 3 (.pointer (some ⟨w.heap.size, 0, .none⟩)) hk.1) hb
 ·exact OpOk.lp (fX ev 46 hf.1) (rowPart (on_blk_mul (H15.out.below hT).right.right.right.right.right.right.right.right.right.right) HpPP_17.out) hun HsPY.out
 ·exact OpOk.c2 (fX ev 45 hf.1) (fX ev 47 hf.2.1) hb (kAdd_px_py.out X)
 ·exact OpOk.s (fV ev 4 (.pointer (some ⟨w.heap.size + 1, 0, .none⟩)) hk.1) hb
 ·exact OpOk.lp (fX ev 49 hf.1) (rowPart (on_blk_mul (H15.out.below hT).right.right.right.right.right.right.right.right.right) HpQQ_0.out) hun HsQX.out
 ·exact OpOk.s (fV ev 4 (.pointer (some ⟨w.heap.size + 1, 0, .none⟩)) hk.1) hb
 ·exact OpOk.lp (fX ev 51 hf.1) (rowPart (on_blk_mul (H15.out.below hT).right.right.right.right.right.right.right.right.right) HpQQ_17.out) hun HsQY.out
 ·exact OpOk.c2 (fX ev 50 hf.1) (fX ev 52 hf.2.1) hb (kAdd_qx_qy.out X)
 ·exact OpOk.c2 (fX ev 48 hf.1) (fX ev 53 hf.2.1) hb (kMul_s1_s2.out X)
 ·exact OpOk.l (x := .tmp 9) hk.1 (on_blk_mul (H15.out.below hT).right.right.right.right) hun HsVc.out
 ·exact OpOk.c2 (fX ev 54 hf.1) (fX ev 55 hf.2.1) hb (kSub_m_c.out X)
 ·exact OpOk.l (x := .tmp 10) hk.1 (on_blk_mul (H15.out.below hT).right.right.right) hun HsVe.out
 ·exact OpOk.c2 (fX ev 56 hf.1) (fX ev 57 hf.2.1) hb (kSub_m1_e.out X)
 ·exact OpOk.al hT.size (by simp [execOp, hzN, go_sem])
 intro w16 hX
 rintro _ rfl _ rfl _ rfl _ rfl _ rfl _ rfl _ rfl _ rfl _ rfl _ rfl _ rfl _ rfl _ rfl _ rfl _ rfl _ ⟨g14, rfl, hgg14, hcg14⟩
 have H16 := hide (on_fresh H15.out hX hgg14 hcg14)
 have S16 := hide (S15.out.trans (Str.below hX))
 clear hX H15 S15 hgg14 hcg14
 go_wp2
 refine Rest.done ?_
 have H17 := hide (st0 H16.out (cs := Vcr))
 have S17 := hide (S16.out.setRow (g14) Vcr)
 have gW := on_blk_mul H16.out
 go_wp2_with (first
  | (refine wS gW HsVcr HzVcr HoVcr ?_))
 refine hK13.out _ _ ?_
 clear hK13 K13
 generalize w16.setRow (g14) Vcr = w17 at *
 clear gW H16 S16
 refine wp_seq_h fun K14 hK14 => ?_
 refine wp_tail 16 (iv [.agg Va, .agg Vg, .agg Vag, .agg Vcr, .agg Vrx, .agg Va, .agg Vh, .agg Vah, .agg Ve, .agg Vc, .agg Vec, .agg Vry, .agg Vg, .agg Vh, .agg Vrz, .agg RR]) ?t10 ?r10
 case' t10 => refine ⟨?_, ?_, ?_, ?_, ?_, ?_, ?_, ?_, ?_, ?_, ?_, ?_, ?_, ?_, ?_, ?_, trivial⟩ <;> intro ev X hT hb hk hf
 ·exact OpOk.l (x := .tmp 7) hk.1 (on_blk_mul (H17.out.below hT).right.right.right.right.right.right.right) hun HsVa.out
 ·exact OpOk.l (x := .tmp 12) hk.1 (on_blk_mul (H17.out.below hT).right.right) hun HsVg.out
 ·exact OpOk.c2 (fX ev 59 hf.1) (fX ev 60 hf.2.1) hb (kMul_a_g.out X)
 ·exact OpOk.l (x := .tmp 14) hk.1 (on_blk_mul (H17.out.below hT)) hun HsVcr.out
 ·exact OpOk.c2 (fX ev 61 hf.1) (fX ev 62 hf.2.1) hb (kMul_ag_cr.out X)
 ·exact OpOk.l (x := .tmp 7) hk.1 (on_blk_mul (H17.out.below hT).right.right.right.right.right.right.right) hun HsVa.out
 ·exact OpOk.l (x := .tmp 13) hk.1 (on_blk_mul (H17.out.below hT).right) hun HsVh.out
 ·exact OpOk.c2 (fX ev 64 hf.1) (fX ev 65 hf.2.1) hb (kMul_a_h.out X)
 ·exact OpOk.l (x := .tmp 10) hk.1 (on_blk_mul (H17.out.below hT).right.right.right.right) hun HsVe.out
 ·exact OpOk.l (x := .tmp 9) hk.1 (on_blk_mul (H17.out.below hT).right.right.right.right.right) hun HsVc.out
 ·exact OpOk.c2 (fX ev 67 hf.1) (fX ev 68 hf.2.1) hb (kAdd_e_c.out X)
 ·exact OpOk.c2 (fX ev 66 hf.1) (fX ev 69 hf.2.1) hb (kMul_ah_ec.out X)
 ·exact OpOk.l (x := .tmp 12) hk.1 (on_blk_mul (H17.out.below hT).right.right) hun HsVg.out
 ·exact OpOk.l (x := .tmp 13) hk.1 (on_blk_mul (H17.out.below hT).right) hun HsVh.out
 ·exact OpOk.c2 (fX ev 71 hf.1) (fX ev 72 hf.2.1) hb (kMul_g_h.out X)
 ·exact OpOk.r (by simp [execOp, fX ev 63 hf.1, fX ev 70 hf.2.1, fX ev 73 hf.2.2.1, Hb.out X])
 intro w18 hX
 iterate 16 rintro _ rfl
 obtain ⟨H18, S18⟩ := nx H17.out S17.out hX
 clear hX H17 S17
 go_wp2
 refine Rest.done ?_
 have gR := on_blk_mul H18.out.right.right.right.right.right.right.right.right
 have HB := hide (all_below H18.out.right.right.right.right.right.right.right.right.right.right.right.right S18.out)
 go_wp2_with (first
  | (refine wS gR HsRR HzRR HoRR ?_))
 refine hK14.out _ _ ?_
 clear hK14 K14
 go_wp2
 exact retR Tryz.results41 gR hum HsRR.out rfl HB.out (by omega)
theorem madd_any (s t : Ed.Tp) (w : World) : Calls Tryz.prog 41 #[.agg (tpC s), .agg (tpC t), .agg (n17 Ed.dN)] w fun e w' => e = .returned (.agg (tpC (s.add t))) ∧ Below w.heap.size w w' := by
 have h := madd_nat _ _ _ _ _ _ s.x.isLt s.y.isLt s.z.isLt t.x.isLt t.y.isLt t.z.isLt Ed.dN (by decide) w
 unfold tpC Ed.Tp.add Ed.tpMix
 simp only [Ed.val_mul, Ed.val_add, Ed.val_sub, Ed.d5_val]
 exact h
theorem tpInfo (s : Ed.Tp) : (Tryz.prog.info? 58).map (·.size) = some (tpC s).size := mInfo _ _ _
theorem tpOne (s : Ed.Tp) : (tpC s).all (·.oneCell') = true := mC_one _ _ _
theorem tpSize (s t : Ed.Tp) : (tpC s).size = (tpC t).size := mSize _ _ _ _ _ _
theorem tpZ (s : Ed.Tp) : (mC 0 0 0).size = (tpC s).size := mSize _ _ _ _ _ _
theorem mtimes_any (p : Ed.Tp) (n : Nat) (hn : n < 18446744073709551616 ^ 4) (w : World) :
  Calls Tryz.prog 16 #[.agg (tpC p), .agg (q4 n), .agg (n17 Ed.dN)] w fun e w' => e = .returned (.agg (tpC (Ed.Tp.times p n 256))) ∧ Below w.heap.size w w' := by
 have hu4 := Tryz.underlying51
 have hun := Tryz.underlying56
 have hum := Tryz.underlying58
 have hzL := eZero4
 have hzN := nZero
 have hzM := mZero
 have h0 := ((((on_all w).alloc (.cells (tpC p) 58)).alloc (.cells (q4 n) 51)).alloc (.cells (n17 Ed.dN) 56)).alloc (.cells (mC 0 0 0) 58)
 have s0 := ((((Str.refl w).alloc (.cells (tpC p) 58)).alloc (.cells (q4 n) 51)).alloc (.cells (n17 Ed.dN) 56)).alloc (.cells (mC 0 0 0) 58)
 try simp only [World.size_alloc] at h0
 have H1 := hide h0
 have S1 := hide s0
 clear h0 s0
 have Hno := hide (fun X => mnone_any X)
 have Hpl := hide (fun s t X => madd_any s t X)
 have HI := hide tpInfo
 have HO := hide tpOne
 have HZ := hide tpSize
 have HZs := hide tpZ
 have HsA := hide (tpInfo p)
 obtain ⟨HsQ0, HoQ0, HzQ0⟩ := b3 (tpInfo Ed.Tp.none) (tpOne Ed.Tp.none) (tpZ Ed.Tp.none)
 have Hcell : Hid (∀ m, m < 256 → (q4 n)[m / 64]? = some (lv (limb n (m / 64)))) := hide fun m hm => lvs_get _ _ _ (qs_get 4 n _ (by omega))
 clear hn
 obtain ⟨HsN4, HoN4, HzN4⟩ := b3 (eInfo4 n) (eOne n) (eSize 0 n)
 obtain ⟨HsDn, HoDn, HzDn⟩ := nF Ed.dN
 generalize q4 n = N4 at *
 generalize n17 Ed.dN = Dn at *
 generalize q4 0 = Z4 at *
 generalize n17 0 = Zn at *
 generalize mC 0 0 0 = Zm at *
 generalize hA : tpC p = A at *
 have HA := hide hA
 clear hA
 generalize hQ : tpC Ed.Tp.none = Q0 at *
 have HQ := hide hQ
 clear hQ
 go_enter Tryz.func16, Tryz.ntmps16
 go_wp2_with fail
 generalize (((w.alloc (.cells A 58)).alloc (.cells N4 51)).alloc (.cells Dn 56)).alloc (.cells Zm 58) = w1 at *
 refine (Hno.out _).mono ?_
 rintro e w2 ⟨rfl, hB⟩
 obtain ⟨H2, S2⟩ := nx H1.out S1.out hB
 clear hB H1 S1
 obtain ⟨gN, gM, H3, S3⟩ := newV H2.out S2.out Zm Q0 58
 go_wp2_with (first
  | (refine wS gN HsQ0 HzQ0 HoQ0 ?_))
 generalize (w2.alloc (.cells Zm 58)).setRow w2.heap.size Q0 = w3 at *
 clear gN gM H2 S2
 generalize w2.heap.size = p5 at *
 go_loopw [8] (fun i wr => ∃ k : Nat, k ≤ 256 ∧ i = .int .i64 ((k : Int) - 1) ∧ (blk p5 (.cells (tpC (Ed.Tp.times p n (256 - k))) 58 (0, 0)) * (blk (w.heap.size + 1 + 1 + 1) (.cells Zm 58 (0, 0)) * (blk (w.heap.size + 1 + 1) (.cells Dn 56 (0, 0)) * (blk (w.heap.size + 1) (.cells N4 51 (0, 0)) * (blk (w.heap.size) (.cells A 58 (0, 0)) * all w))))).on wr ∧ Str w wr) (fun i _ => (intOf i + 1).toNat)
 case atStart => exact ⟨256, by omega, rfl, by rw [show Ed.Tp.times p n (256 - 256) = Ed.Tp.none from rfl, HQ.out]; exact H3.out, S3.out⟩
 obtain ⟨k, hk, rfl, hX, hS2⟩ := hrel
 have H4 := hide hX
 have S4 := hide hS2
 clear hX hS2 H3 S3
 cases k with
 | zero =>
  obtain ⟨HsP, HoP, HzP⟩ := b3 (HI.out (Ed.Tp.times p n 256)) (HO.out (Ed.Tp.times p n 256)) (HZs.out (Ed.Tp.times p n 256))
  rw [show 256 - 0 = 256 from rfl] at H4
  generalize mC 0 0 0 = Zm0 at *
  generalize hP : tpC (Ed.Tp.times p n 256) = P at *
  have HP := hide hP
  clear hP
  have g0 := on_blk_mul H4.out
  have gR := on_blk_mul H4.out.right
  have HB := hide (all_below H4.out.right.right.right.right.right S4.out)
  go_wp2_with (first
   | (refine wS gR HsP HzP HoP ?_)
   | (refine wL g0 hum HsP ?_))
  exact retE Tryz.results16 gR hum HsP.out rfl (by rw [HP.out]) HB.out (by omega)
 | succ m =>
  have hm2 : m < 256 := by omega
  have hst : Ed.Tp.times p n (256 - m) = Ed.Tp.next p (n.testBit m) (Ed.Tp.add (Ed.Tp.times p n (256 - (m + 1))) (Ed.Tp.times p n (256 - (m + 1)))) := by
   conv => lhs; rw [show 256 - m = (256 - (m + 1)) + 1 by omega]
   show Ed.Tp.next p (n.testBit (255 - (256 - (m + 1)))) _ = _
   rw [show 255 - (256 - (m + 1)) = m by omega]
  have hb := bit_rem n m
  have s1 : (((m + 1 : Nat) : Int) - 1) = (m : Int) := by omega
  rw [s1]
  clear s1
  have hm4 : ((m / 64 : Nat) : Int) < 4 := by omega
  have Hst := hide hst
  have hE := Hcell.out m hm2
  clear hst
  generalize Ed.Tp.times p n (256 - (m + 1)) = s at *
  have Hp1 := hide (fun X => Hpl.out s s X)
  have Hp2 := hide (fun X => Hpl.out (s.add s) p X)
  rw [HA.out] at Hp2
  have HsP := hide (HI.out s)
  obtain ⟨HsB, HoB, HzB⟩ := b3 (HI.out (s.add s)) (HO.out (s.add s)) (HZ.out s (s.add s))
  obtain ⟨HsC, HoC, HzC⟩ := b3 (HI.out ((s.add s).add p)) (HO.out ((s.add s).add p)) (HZ.out (s.add s) ((s.add s).add p))
  generalize limb n (m / 64) = x at *
  generalize tpC s = P at *
  generalize hB : tpC (s.add s) = B at *
  generalize hC : tpC ((s.add s).add p) = C at *
  have HB := hide hB
  have HC := hide hC
  clear hB hC
  have g0 := on_blk_mul H4.out
  have gD := on_blk_mul H4.out.right.right
  go_wp2_with (first
   | (refine wL g0 hum HsP ?_)
   | (refine wL gD hun HsDn ?_))
  clear g0 gD
  refine (Hp1.out _).mono ?_
  rintro e w5 ⟨rfl, hB⟩
  obtain ⟨H5, S5⟩ := nx H4.out S4.out hB
  clear hB H4 S4
  have H6 := hide (st0 H5.out (cs := B))
  have S6 := hide (S5.out.setRow (p5) B)
  have gW := on_blk_mul H5.out
  have g0 := on_blk_mul H6.out
  have gA := on_blk_mul H6.out.right.right.right.right
  have gD := on_blk_mul H6.out.right.right
  have hcell := (cell_of_row (w5.setRow p5 B) (w.heap.size + 1) (m / 64) _ _ _ (on_blk_mul H6.out.right.right.right)).trans hE
  by_cases ht : n.testBit m = true
  ·rw [ht] at hb
   have HN := hide (show Ed.Tp.times p n (256 - m) = (s.add s).add p by rw [Hst.out, ht]; exact if_pos rfl)
   clear ht hE
   go_wp2_with (first
    | (refine wS gW HsB HzB HoB ?_)
    | (refine wL g0 hum HsB ?_)
    | (refine wL gA hum HsA ?_)
    | (refine wL gD hun HsDn ?_))
   clear hcell gA gD
   generalize w5.setRow p5 B = w6 at *
   clear gW H5 S5 g0
   refine (Hp2.out _).mono ?_
   rintro e w7 ⟨rfl, hB⟩
   obtain ⟨H7, S7⟩ := nx H6.out S6.out hB
   clear hB H6 S6
   have H8 := hide (st0 H7.out (cs := C))
   have S8 := hide (S7.out.setRow (p5) C)
   have gW := on_blk_mul H7.out
   go_wp2_with (first
    | (refine wS gW HsC HzC HoC ?_))
   exact ⟨⟨m, by omega, rfl, by rw [HN.out, HC.out]; exact H8.out, S8.out⟩, by simp [intOf]⟩
  have hf : n.testBit m = false := by simpa using ht
  rw [hf] at hb
  have HN := hide (show Ed.Tp.times p n (256 - m) = s.add s by rw [Hst.out, hf]; exact if_neg (by decide))
  clear ht hE hf
  go_wp2_with (first
   | (refine wS gW HsB HzB HoB ?_))
  exact ⟨⟨m, by omega, rfl, by rw [HN.out, HB.out]; exact H6.out, S6.out⟩, by simp [intOf]⟩
theorem msame_nat (px py pz qx qy qz : Nat) (bpx : px < P5) (bpy : py < P5) (bpz : pz < P5) (bqx : qx < P5) (bqy : qy < P5) (bqz : qz < P5) (w : World) :
  Calls Tryz.prog 58 #[.agg (mC px py pz), .agg (mC qx qy qz)] w fun e w' => e = .returned (.bool (decide (px * qz % P5 = qx * pz % P5) && decide (py * qz % P5 = qy * pz % P5))) ∧ Below w.heap.size w w' := by
 have hum := Tryz.underlying58
 have hun := Tryz.underlying56
 have hzM := mZero
 have hzN := nZero
 have h0 := ((on_all w).alloc (.cells (mC px py pz) 58)).alloc (.cells (mC qx qy qz) 58)
 have s0 := ((Str.refl w).alloc (.cells (mC px py pz) 58)).alloc (.cells (mC qx qy qz) 58)
 try simp only [World.size_alloc] at h0
 have H1 := hide h0
 have S1 := hide s0
 clear h0 s0
 have ka0 := fun X => rmul5 px qz bpx bqz X
 have ba : px * qz % P5 < P5 := Nat.mod_lt _ P5_pos
 generalize px * qz % P5 = a at *
 have hka := hide ka0
 clear ka0
 have kb0 := fun X => rmul5 qx pz bqx bpz X
 have bb : qx * pz % P5 < P5 := Nat.mod_lt _ P5_pos
 generalize qx * pz % P5 = b at *
 have hkb := hide kb0
 clear kb0
 have kc0 := fun X => rmul5 py qz bpy bqz X
 have bc : py * qz % P5 < P5 := Nat.mod_lt _ P5_pos
 generalize py * qz % P5 = c at *
 have hkc := hide kc0
 clear kc0
 have kd0 := fun X => rmul5 qy pz bqy bpz X
 have bd : qy * pz % P5 < P5 := Nat.mod_lt _ P5_pos
 generalize qy * pz % P5 = d at *
 have hkd := hide kd0
 clear kd0
 have HgdN : Hid (Tryz.prog.eqGuardType Tryz.prog.depth 56 = false) := hide (by kernel_rfl)
 have hE1 := hide (fun X => eq_n17 X 9998 a b (lt255 ba) (lt255 bb))
 have hE2 := hide (fun X => eq_n17 X 9998 c d (lt255 bc) (lt255 bd))
 generalize decide (a = b) = r1 at *
 generalize decide (c = d) = r2 at *
 obtain ⟨HsPP, HoPP, HzPP⟩ := b3 (mInfo px py pz) (mC_one px py pz) (mSize 0 0 0 px py pz)
 have HpPP_0 := hide (mC_x px py pz)
 have HpPP_17 := hide (mC_y px py pz)
 have HpPP_34 := hide (mC_z px py pz)
 obtain ⟨HsQQ, HoQQ, HzQQ⟩ := b3 (mInfo qx qy qz) (mC_one qx qy qz) (mSize 0 0 0 qx qy qz)
 have HpQQ_0 := hide (mC_x qx qy qz)
 have HpQQ_17 := hide (mC_y qx qy qz)
 have HpQQ_34 := hide (mC_z qx qy qz)
 obtain ⟨HsPX, HoPX, HzPX⟩ := nF px
 obtain ⟨HsPY, HoPY, HzPY⟩ := nF py
 obtain ⟨HsPZ, HoPZ, HzPZ⟩ := nF pz
 obtain ⟨HsQX, HoQX, HzQX⟩ := nF qx
 obtain ⟨HsQY, HoQY, HzQY⟩ := nF qy
 obtain ⟨HsQZ, HoQZ, HzQZ⟩ := nF qz
 obtain ⟨HsVa, HoVa, HzVa⟩ := nF a
 obtain ⟨HsVb, HoVb, HzVb⟩ := nF b
 obtain ⟨HsVc, HoVc, HzVc⟩ := nF c
 obtain ⟨HsVd, HoVd, HzVd⟩ := nF d
 clear ba bb bc bd bpx bpy bpz bqx bqy bqz
 generalize mC px py pz = PP at *
 generalize mC qx qy qz = QQ at *
 generalize n17 px = PX at *
 generalize n17 py = PY at *
 generalize n17 pz = PZ at *
 generalize n17 qx = QX at *
 generalize n17 qy = QY at *
 generalize n17 qz = QZ at *
 generalize n17 a = Va at *
 generalize n17 b = Vb at *
 generalize n17 c = Vc at *
 generalize n17 d = Vd at *
 generalize mC 0 0 0 = Zm at *
 generalize n17 0 = Zn at *
 go_enter Tryz.func58, Tryz.ntmps58
 refine wp_seq_h fun K1 hK1 => ?_
 go_wp2
 refine hK1.out _ _ ?_
 clear hK1 K1
 generalize (w.alloc (.cells PP 58)).alloc (.cells QQ 58) = w1 at *
 have hcases : r1 = true ∨ r1 = false := by cases r1 <;> simp
 rcases hcases with rfl | rfl
 ·refine wp_seq_h fun K2 hK2 => ?_
  refine wp_tail 24 (iv [.pointer (some ⟨w.heap.size, 0, .none⟩), .agg PX, .pointer (some ⟨w.heap.size + 1, 34, .none⟩), .agg QZ, .agg Va, .pointer (some ⟨w.heap.size + 1, 0, .none⟩), .agg QX, .pointer (some ⟨w.heap.size, 34, .none⟩), .agg PZ, .agg Vb, .bool true, .bool true, .pointer (some ⟨w.heap.size, 17, .none⟩), .agg PY, .pointer (some ⟨w.heap.size + 1, 34, .none⟩), .agg QZ, .agg Vc, .pointer (some ⟨w.heap.size + 1, 17, .none⟩), .agg QY, .pointer (some ⟨w.heap.size, 34, .none⟩), .agg PZ, .agg Vd, .bool r2, .bool r2]) ?t15 ?r15
  case' t15 => refine ⟨?_, ?_, ?_, ?_, ?_, ?_, ?_, ?_, ?_, ?_, ?_, ?_, ?_, ?_, ?_, ?_, ?_, ?_, ?_, ?_, ?_, ?_, ?_, ?_, trivial⟩ <;> intro ev X hT hb hk hf
  ·exact OpOk.s (fV ev 2 (.pointer (some ⟨w.heap.size, 0, .none⟩)) hk.1) hb
  ·exact OpOk.lp (fX ev 5 hf.1) (rowPart (on_blk_mul (H1.out.below hT).right) HpPP_0.out) hun HsPX.out
  ·exact OpOk.s (fV ev 3 (.pointer (some ⟨w.heap.size + 1, 0, .none⟩)) hk.1) hb
  ·exact OpOk.lp (fX ev 7 hf.1) (rowPart (on_blk_mul (H1.out.below hT)) HpQQ_34.out) hun HsQZ.out
  ·exact OpOk.c2 (fX ev 6 hf.1) (fX ev 8 hf.2.1) hb (hka.out X)
  ·exact OpOk.s (fV ev 3 (.pointer (some ⟨w.heap.size + 1, 0, .none⟩)) hk.1) hb
  ·exact OpOk.lp (fX ev 10 hf.1) (rowPart (on_blk_mul (H1.out.below hT)) HpQQ_0.out) hun HsQX.out
  ·exact OpOk.s (fV ev 2 (.pointer (some ⟨w.heap.size, 0, .none⟩)) hk.1) hb
  ·exact OpOk.lp (fX ev 12 hf.1) (rowPart (on_blk_mul (H1.out.below hT).right) HpPP_34.out) hun HsPZ.out
  ·exact OpOk.c2 (fX ev 11 hf.1) (fX ev 13 hf.2.1) hb (hkb.out X)
  ·exact OpOk.run (v := .bool true) (W' := X) (by
    unfold execOp
    simp only [fX ev 9 hf.1, fX ev 14 hf.2.1, Sem.run_bind, run_eqGuard_agg X _ _ _ _ _ _ HgdN.out, run_eql_struct, hE1.out X, Result.andThen_ok]
    rfl) ⟨rfl, Stay.refl _⟩
  ·exact OpOk.m rfl hf.1
  ·refine ⟨true, hf.1, fun _ => ?_, fun h => (h rfl).elim⟩
   exact OpOk.s (fV ev 2 (.pointer (some ⟨w.heap.size, 0, .none⟩)) hk.1) hb
  ·refine ⟨true, hf.2.1, fun _ => ?_, fun h => (h rfl).elim⟩
   exact OpOk.lp (fX ev 17 hf.1) (rowPart (on_blk_mul (H1.out.below hT).right) HpPP_17.out) hun HsPY.out
  ·refine ⟨true, hf.1, fun _ => ?_, fun h => (h rfl).elim⟩
   exact OpOk.s (fV ev 3 (.pointer (some ⟨w.heap.size + 1, 0, .none⟩)) hk.1) hb
  ·refine ⟨true, hf.2.1, fun _ => ?_, fun h => (h rfl).elim⟩
   exact OpOk.lp (fX ev 19 hf.1) (rowPart (on_blk_mul (H1.out.below hT)) HpQQ_34.out) hun HsQZ.out
  ·refine ⟨true, hf.2.2.1, fun _ => ?_, fun h => (h rfl).elim⟩
   exact OpOk.c2 (fX ev 18 hf.1) (fX ev 20 hf.2.1) hb (hkc.out X)
  ·refine ⟨true, hf.1, fun _ => ?_, fun h => (h rfl).elim⟩
   exact OpOk.s (fV ev 3 (.pointer (some ⟨w.heap.size + 1, 0, .none⟩)) hk.1) hb
  ·refine ⟨true, hf.2.1, fun _ => ?_, fun h => (h rfl).elim⟩
   exact OpOk.lp (fX ev 22 hf.1) (rowPart (on_blk_mul (H1.out.below hT)) HpQQ_17.out) hun HsQY.out
  ·refine ⟨true, hf.1, fun _ => ?_, fun h => (h rfl).elim⟩
   exact OpOk.s (fV ev 2 (.pointer (some ⟨w.heap.size, 0, .none⟩)) hk.1) hb
  ·refine ⟨true, hf.2.1, fun _ => ?_, fun h => (h rfl).elim⟩
   exact OpOk.lp (fX ev 24 hf.1) (rowPart (on_blk_mul (H1.out.below hT).right) HpPP_34.out) hun HsPZ.out
  ·refine ⟨true, hf.2.2.2.1, fun _ => ?_, fun h => (h rfl).elim⟩
   exact OpOk.c2 (fX ev 23 hf.1) (fX ev 25 hf.2.1) hb (hkd.out X)
  ·refine ⟨true, hf.2.2.1, fun _ => ?_, fun h => (h rfl).elim⟩
   exact OpOk.run (v := .bool r2) (W' := X) (by
    unfold execOp
    simp only [fX ev 21 hf.1, fX ev 26 hf.2.1, Sem.run_bind, run_eqGuard_agg X _ _ _ _ _ _ HgdN.out, run_eql_struct, hE2.out X, Result.andThen_ok]
    rfl) ⟨rfl, Stay.refl _⟩
  ·exact OpOk.s2 (fX ev 16 hf.1) (fX ev 27 hf.2.1) hb
  intro w2 hX
  iterate 24 rintro _ rfl
  obtain ⟨H2, S2⟩ := nx H1.out S1.out hX
  clear hX H1 S1
  go_wp2
  refine Rest.done ?_
  have HB := hide (all_below H2.out.right.right S2.out)
  go_wp2
  refine hK2.out _ _ ?_
  clear hK2 K2
  go_wp2
  go_ret
  exact ⟨rfl, HB.out⟩
 refine wp_seq_h fun K3 hK3 => ?_
 refine wp_tail 24 (iv [.pointer (some ⟨w.heap.size, 0, .none⟩), .agg PX, .pointer (some ⟨w.heap.size + 1, 34, .none⟩), .agg QZ, .agg Va, .pointer (some ⟨w.heap.size + 1, 0, .none⟩), .agg QX, .pointer (some ⟨w.heap.size, 34, .none⟩), .agg PZ, .agg Vb, .bool false, .bool false, undef, undef, undef, undef, undef, undef, undef, undef, undef, undef, undef, .bool false]) ?t16 ?r16
 case' t16 => refine ⟨?_, ?_, ?_, ?_, ?_, ?_, ?_, ?_, ?_, ?_, ?_, ?_, ?_, ?_, ?_, ?_, ?_, ?_, ?_, ?_, ?_, ?_, ?_, ?_, trivial⟩ <;> intro ev X hT hb hk hf
 ·exact OpOk.s (fV ev 2 (.pointer (some ⟨w.heap.size, 0, .none⟩)) hk.1) hb
 ·exact OpOk.lp (fX ev 5 hf.1) (rowPart (on_blk_mul (H1.out.below hT).right) HpPP_0.out) hun HsPX.out
 ·exact OpOk.s (fV ev 3 (.pointer (some ⟨w.heap.size + 1, 0, .none⟩)) hk.1) hb
 ·exact OpOk.lp (fX ev 7 hf.1) (rowPart (on_blk_mul (H1.out.below hT)) HpQQ_34.out) hun HsQZ.out
 ·exact OpOk.c2 (fX ev 6 hf.1) (fX ev 8 hf.2.1) hb (hka.out X)
 ·exact OpOk.s (fV ev 3 (.pointer (some ⟨w.heap.size + 1, 0, .none⟩)) hk.1) hb
 ·exact OpOk.lp (fX ev 10 hf.1) (rowPart (on_blk_mul (H1.out.below hT)) HpQQ_0.out) hun HsQX.out
 ·exact OpOk.s (fV ev 2 (.pointer (some ⟨w.heap.size, 0, .none⟩)) hk.1) hb
 ·exact OpOk.lp (fX ev 12 hf.1) (rowPart (on_blk_mul (H1.out.below hT).right) HpPP_34.out) hun HsPZ.out
 ·exact OpOk.c2 (fX ev 11 hf.1) (fX ev 13 hf.2.1) hb (hkb.out X)
 ·exact OpOk.run (v := .bool false) (W' := X) (by
   unfold execOp
   simp only [fX ev 9 hf.1, fX ev 14 hf.2.1, Sem.run_bind, run_eqGuard_agg X _ _ _ _ _ _ HgdN.out, run_eql_struct, hE1.out X, Result.andThen_ok]
   rfl) ⟨rfl, Stay.refl _⟩
 ·exact OpOk.m rfl hf.1
 ·exact ⟨false, hf.1, fun h => (nomatch h), fun _ => rfl⟩
 ·exact ⟨false, hf.2.1, fun h => (nomatch h), fun _ => rfl⟩
 ·exact ⟨false, hf.1, fun h => (nomatch h), fun _ => rfl⟩
 ·exact ⟨false, hf.2.1, fun h => (nomatch h), fun _ => rfl⟩
 ·exact ⟨false, hf.2.2.1, fun h => (nomatch h), fun _ => rfl⟩
 ·exact ⟨false, hf.1, fun h => (nomatch h), fun _ => rfl⟩
 ·exact ⟨false, hf.2.1, fun h => (nomatch h), fun _ => rfl⟩
 ·exact ⟨false, hf.1, fun h => (nomatch h), fun _ => rfl⟩
 ·exact ⟨false, hf.2.1, fun h => (nomatch h), fun _ => rfl⟩
 ·exact ⟨false, hf.2.2.2.1, fun h => (nomatch h), fun _ => rfl⟩
 ·exact ⟨false, hf.2.2.1, fun h => (nomatch h), fun _ => rfl⟩
 ·exact OpOk.s2 (fX ev 16 hf.1) (fX ev 27 hf.2.1) hb
 intro w2 hX
 iterate 24 rintro _ rfl
 obtain ⟨H2, S2⟩ := nx H1.out S1.out hX
 clear hX H1 S1
 go_wp2
 refine Rest.done ?_
 have HB := hide (all_below H2.out.right.right S2.out)
 go_wp2
 refine hK3.out _ _ ?_
 clear hK3 K3
 go_wp2
 go_ret
 exact ⟨rfl, HB.out⟩
theorem msame_any {s t : Ed.Tp} {p q : Ed.Pt} (hs : s.has p) (ht : t.has q) (w : World) :
  Calls Tryz.prog 58 #[.agg (tpC s), .agg (tpC t)] w fun e w' => e = .returned (.bool (decide (p = q))) ∧ Below w.heap.size w w' := by
 have h := msame_nat _ _ _ _ _ _ s.x.isLt s.y.isLt s.z.isLt t.x.isLt t.y.isLt t.z.isLt w
 obtain ⟨h1, h2⟩ := Ed.Pj.same hs ht
 have e1 : decide (s.x.val * t.z.val % P5 = t.x.val * s.z.val % P5) = decide (p.x = q.x) := by
  rw [Bool.eq_iff_iff, decide_eq_true_iff, decide_eq_true_iff, ← h1, ← Ed.val_mul, ← Ed.val_mul]
  exact ⟨fun h => Fin.ext h, fun h => by rw [h]⟩
 have e2 : decide (s.y.val * t.z.val % P5 = t.y.val * s.z.val % P5) = decide (p.y = q.y) := by
  rw [Bool.eq_iff_iff, decide_eq_true_iff, decide_eq_true_iff, ← h2, ← Ed.val_mul, ← Ed.val_mul]
  exact ⟨fun h => Fin.ext h, fun h => by rw [h]⟩
 have e3 : (decide (p.x = q.x) && decide (p.y = q.y)) = decide (p = q) := by
  rw [Bool.eq_iff_iff, Bool.and_eq_true, decide_eq_true_iff, decide_eq_true_iff, decide_eq_true_iff]
  exact ⟨fun h => Ed.Pt.same h.1 h.2, fun h => by rw [h]; exact ⟨rfl, rfl⟩⟩
 rw [e1, e2, e3] at h
 exact h
theorem dN_is : (P5 - 3 * ((30000 + 10555) % P5) % P5) % P5 * pwr ((4 * 30000 % P5 + 1666) % P5) (P5 - 2) 256 % P5 = Ed.dN := by decide +kernel
theorem md_any (w : World) : Calls Tryz.prog 18 #[] w fun e w' => e = .returned (.agg (n17 Ed.dN)) ∧ Below w.heap.size w w' := by
 rw [← dN_is]
 have hun := Tryz.underlying56
 have hzN := nZero
 have h0 := (on_all w).alloc (.cells (n17 0) 56)
 have s0 := (Str.refl w).alloc (.cells (n17 0) 56)
 try simp only [World.size_alloc] at h0
 have H1 := hide h0
 have S1 := hide s0
 clear h0 s0
 have q3 := hide (fun X => rsm 3 (by decide) (by decide) X)
 have q30000 := hide (fun X => rsm 30000 (by decide) (by decide) X)
 have q10555 := hide (fun X => rsm 10555 (by decide) (by decide) X)
 have q4 := hide (fun X => rsm 4 (by decide) (by decide) X)
 have q1666 := hide (fun X => rsm 1666 (by decide) (by decide) X)
 have ka0 := fun X => radd5 30000 10555 (by decide) (by decide) X
 have ba : (30000 + 10555) % P5 < P5 := Nat.mod_lt _ P5_pos
 generalize (30000 + 10555) % P5 = a at *
 have hka := hide ka0
 clear ka0
 have kb0 := fun X => rmul5 3 a (by decide) ba X
 have bb : 3 * a % P5 < P5 := Nat.mod_lt _ P5_pos
 generalize 3 * a % P5 = b at *
 have hkb := hide kb0
 clear kb0
 have kc0 := fun X => rneg_any b bb X
 have bc : (P5 - b) % P5 < P5 := Nat.mod_lt _ P5_pos
 generalize (P5 - b) % P5 = c at *
 have hkc := hide kc0
 clear kc0
 have kd0 := fun X => rmul5 4 30000 (by decide) (by decide) X
 have bd : 4 * 30000 % P5 < P5 := Nat.mod_lt _ P5_pos
 generalize 4 * 30000 % P5 = d at *
 have hkd := hide kd0
 clear kd0
 have kf0 := fun X => radd5 d 1666 bd (by decide) X
 have bf : (d + 1666) % P5 < P5 := Nat.mod_lt _ P5_pos
 generalize (d + 1666) % P5 = f at *
 have hkf := hide kf0
 clear kf0
 have kg0 := fun X => rinvert_any f bf X
 have bg : pwr f (P5 - 2) 256 < P5 := pwr_lt _ _ _
 generalize pwr f (P5 - 2) 256 = g at *
 have hkg := hide kg0
 clear kg0
 have kr0 := fun X => rmul5 c g bc bg X
 have br : c * g % P5 < P5 := Nat.mod_lt _ P5_pos
 generalize c * g % P5 = r at *
 have hkr := hide kr0
 clear kr0
 obtain ⟨HsN3, HoN3, HzN3⟩ := nF 3
 obtain ⟨HsN30, HoN30, HzN30⟩ := nF 30000
 obtain ⟨HsN10, HoN10, HzN10⟩ := nF 10555
 obtain ⟨HsN4, HoN4, HzN4⟩ := nF 4
 obtain ⟨HsN16, HoN16, HzN16⟩ := nF 1666
 obtain ⟨HsVa, HoVa, HzVa⟩ := nF a
 obtain ⟨HsVb, HoVb, HzVb⟩ := nF b
 obtain ⟨HsVc, HoVc, HzVc⟩ := nF c
 obtain ⟨HsVd, HoVd, HzVd⟩ := nF d
 obtain ⟨HsVf, HoVf, HzVf⟩ := nF f
 obtain ⟨HsVg, HoVg, HzVg⟩ := nF g
 obtain ⟨HsVr, HoVr, HzVr⟩ := nF r
 clear ba bb bc bd bf bg br
 generalize n17 3 = N3 at *
 generalize n17 30000 = N30 at *
 generalize n17 10555 = N10 at *
 generalize n17 4 = N4 at *
 generalize n17 1666 = N16 at *
 generalize n17 a = Va at *
 generalize n17 b = Vb at *
 generalize n17 c = Vc at *
 generalize n17 d = Vd at *
 generalize n17 f = Vf at *
 generalize n17 g = Vg at *
 generalize n17 r = Vr at *
 generalize n17 0 = Zn at *
 go_enter Tryz.func18, Tryz.ntmps18
 refine wp_seq_h fun K4 hK4 => ?_
 go_wp2
 refine hK4.out _ _ ?_
 clear hK4 K4
 generalize w.alloc (.cells Zn 56) = w1 at *
 refine wp_seq_h fun K5 hK5 => ?_
 refine sQ 13 (iv [.agg N3, .agg N30, .agg N10, .agg Va, .agg Vb, .agg Vc, .agg N4, .agg N30, .agg Vd, .agg N16, .agg Vf, .agg Vg, .agg Vr]) ?t17 ?r17
 case' t17 => refine ⟨?_, ?_, ?_, ?_, ?_, ?_, ?_, ?_, ?_, ?_, ?_, ?_, ?_, trivial⟩ <;> intro ev X hT hb hk hf
 ·exact OpOk.c0 hb (q3.out X)
 ·exact OpOk.c0 hb (q30000.out X)
 ·exact OpOk.c0 hb (q10555.out X)
 ·exact OpOk.c2 (fX ev 2 hf.1) (fX ev 3 hf.2.1) hb (hka.out X)
 ·exact OpOk.c2 (fX ev 1 hf.1) (fX ev 4 hf.2.1) hb (hkb.out X)
 ·exact OpOk.c1 (fX ev 5 hf.1) hb (hkc.out X)
 ·exact OpOk.c0 hb (q4.out X)
 ·exact OpOk.c0 hb (q30000.out X)
 ·exact OpOk.c2 (fX ev 7 hf.1) (fX ev 8 hf.2.1) hb (hkd.out X)
 ·exact OpOk.c0 hb (q1666.out X)
 ·exact OpOk.c2 (fX ev 9 hf.1) (fX ev 10 hf.2.1) hb (hkf.out X)
 ·exact OpOk.c1 (fX ev 11 hf.1) hb (hkg.out X)
 ·exact OpOk.c2 (fX ev 6 hf.1) (fX ev 12 hf.2.1) hb (hkr.out X)
 intro w2 hX
 iterate 13 rintro _ rfl
 obtain ⟨H2, S2⟩ := nx H1.out S1.out hX
 clear hX H1 S1
 go_wp2
 refine Rest.done ?_
 have gR := on_blk_mul H2.out
 have HB := hide (all_below H2.out.right S2.out)
 go_wp2_with (first
  | (refine wS gR HsVr HzVr HoVr ?_))
 refine hK5.out _ _ ?_
 clear hK5 K5
 go_wp2
 exact retR Tryz.results18 gR hun HsVr.out rfl HB.out (by omega)
theorem mencode_nat (ax ay az : Nat) (bax : ax < P5) (bay : ay < P5) (baz : az < P5) (w : World) :
  Calls Tryz.prog 15 #[.agg (mC ax ay az)] w fun e w' => e = .returned (.agg (zB (Ed.encN (ax * pwr az (P5 - 2) 256 % P5) (ay * pwr az (P5 - 2) 256 % P5)))) ∧ Below w.heap.size w w' := by
 have hum := Tryz.underlying58
 have hun := Tryz.underlying56
 have hub := Tryz.underlying22
 have hzM := mZero
 have hzN := nZero
 have hzB := zBZero
 have h0 := ((on_all w).alloc (.cells (mC ax ay az) 58)).alloc (.cells (zB 0) 22)
 have s0 := ((Str.refl w).alloc (.cells (mC ax ay az) 58)).alloc (.cells (zB 0) 22)
 try simp only [World.size_alloc] at h0
 have H1 := hide h0
 have S1 := hide s0
 clear h0 s0
 have k1 := fun X => rinvert_any az baz X
 have bi : pwr az (P5 - 2) 256 < P5 := pwr_lt _ _ _
 generalize pwr az (P5 - 2) 256 = ivx at *
 have k2 := fun X => rmul5 ax ivx bax bi X
 have bx : ax * ivx % P5 < P5 := Nat.mod_lt _ P5_pos
 generalize ax * ivx % P5 = x at *
 have k3 := fun X => rmul5 ay ivx bay bi X
 have bY : ay * ivx % P5 < P5 := Nat.mod_lt _ P5_pos
 generalize ay * ivx % P5 = y at *
 have k4 := fun X => bytes_any y (lt255 bY) X
 have ht := tB_half y (lt255 bY)
 have hup := bl_up y (lt255 bY)
 have hcl := zB_cell y (by have : 256 ^ 32 = 2 * 2 ^ 255 := by decide +kernel
                           have := lt255 bY
                           omega)
 have hv : (vb (UInt8.ofNat (tB y))) = .int .u8 ((tB y : Nat) : Int) := by unfold vb; rw [UInt8.toNat_ofNat', Nat.mod_eq_of_lt (by omega)]
 have hv2 : (vb (UInt8.ofNat (tB y + 128))) = .int .u8 (((tB y : Nat) : Int) + 128) := by unfold vb; rw [UInt8.toNat_ofNat', Nat.mod_eq_of_lt (by omega)]; rfl
 have HSet : Hid (∀ h : x % 2 = 1, (zB y).setIfInBounds 31 (.int .u8 (((tB y : Nat) : Int) + 128)) = zB (Ed.encN x y)) := hide fun h => by
  rw [← hv2, show Ed.encN x y = y + 2 ^ 255 from if_pos h]; unfold zB; rw [zb_set, hup]
 have HN0 := hide (fun h : ¬ x % 2 = 1 => show Ed.encN x y = y from if_neg h)
 have Hx0 := hide (show (n17 x)[0]? = some (nv (dg x 0)) from dvs_get _ _ _ (ds_get 17 x 0 (by decide)))
 have Hr2 := hide (show ((dg x 0 : Nat) : Int).tmod 2 = ((x % 2 : Nat) : Int) by
  rw [Int.tmod_eq_emod_of_nonneg (by omega)]; unfold dg; rw [Nat.pow_zero, Nat.div_one]; omega)
 rw [hv] at hcl
 have Hcl := hide hcl
 have Ht := hide ht
 generalize tB y = tt at *
 change ∀ X, Calls _ _ _ X fun e w' => e = .returned (.agg (zB y)) ∧ Below X.heap.size X w' at k4
 have hk1 := hide k1
 have hk2 := hide k2
 have hk3 := hide k3
 have hk4 := hide k4
 clear k1 k2 k3 k4 ht hup hcl hv hv2 bi bx bY bax bay baz
 obtain ⟨HsAA, HoAA, HzAA⟩ := b3 (mInfo ax ay az) (mC_one ax ay az) (mSize 0 0 0 ax ay az)
 have HpAA_0 := hide (mC_x ax ay az)
 have HpAA_17 := hide (mC_y ax ay az)
 have HpAA_34 := hide (mC_z ax ay az)
 obtain ⟨HsXA, HoXA, HzXA⟩ := nF ax
 obtain ⟨HsYA, HoYA, HzYA⟩ := nF ay
 obtain ⟨HsZA, HoZA, HzZA⟩ := nF az
 obtain ⟨HsIv, HoIv, HzIv⟩ := nF ivx
 obtain ⟨HsXn, HoXn, HzXn⟩ := nF x
 obtain ⟨HsYn, HoYn, HzYn⟩ := nF y
 obtain ⟨HsYb, HoYb, HzYb⟩ := b3 (zBInfo y) (zBOne y) (zBSize 0 y)
 obtain ⟨HsRb, HoRb, HzRb⟩ := b3 (zBInfo (Ed.encN x y)) (zBOne (Ed.encN x y)) (zBSize 0 (Ed.encN x y))
 generalize mC ax ay az = AA at *
 generalize n17 ax = XA at *
 generalize n17 ay = YA at *
 generalize n17 az = ZA at *
 generalize n17 ivx = Iv at *
 generalize n17 x = Xn at *
 generalize n17 y = Yn at *
 generalize hvYb : zB y = Yb at *
 have HYb := hide hvYb
 clear hvYb
 generalize hvRb : zB (Ed.encN x y) = Rb at *
 have HRb := hide hvRb
 clear hvRb
 generalize mC 0 0 0 = Zm at *
 generalize n17 0 = Zn at *
 generalize zB 0 = ZB at *
 go_enter Tryz.func15, Tryz.ntmps15
 refine wp_seq_h fun K1 hK1 => ?_
 go_wp2
 refine hK1.out _ _ ?_
 clear hK1 K1
 generalize (w.alloc (.cells AA 58)).alloc (.cells ZB 22) = w1 at *
 refine wp_seq_h fun K2 hK2 => ?_
 refine sQ 4 [isV (.pointer (some ⟨w.heap.size, 34, .none⟩)), isV (.agg ZA), isV (.agg Iv), Fresh w1.heap.size (.cells Zn 56 (0, 0))] ?t18 ?r18
 case' t18 => refine ⟨?_, ?_, ?_, ?_, trivial⟩ <;> intro ev X hT hb hk hf
 ·exact OpOk.s (fV ev 1 (.pointer (some ⟨w.heap.size, 0, .none⟩)) hk.1) hb
 ·exact OpOk.lp (fX ev 6 hf.1) (rowPart (on_blk_mul (H1.out.below hT).right) HpAA_34.out) hun HsZA.out
 ·exact OpOk.c1 (fX ev 7 hf.1) hb (hk1.out X)
 ·exact OpOk.al hT.size (by simp [execOp, hzN, go_sem])
 intro w2 hX
 rintro _ rfl _ rfl _ rfl _ ⟨g3, rfl, hgg3, hcg3⟩
 have H2 := hide (on_fresh H1.out hX hgg3 hcg3)
 have S2 := hide (S1.out.trans (Str.below hX))
 clear hX H1 S1 hgg3 hcg3
 go_wp2
 refine Rest.done ?_
 have H3 := hide (st0 H2.out (cs := Iv))
 have S3 := hide (S2.out.setRow (g3) Iv)
 have gW := on_blk_mul H2.out
 go_wp2_with (first
  | (refine wS gW HsIv HzIv HoIv ?_))
 refine hK2.out _ _ ?_
 clear hK2 K2
 generalize w2.setRow (g3) Iv = w3 at *
 clear gW H2 S2
 refine wp_seq_h fun K3 hK3 => ?_
 refine sQ 5 [isV (.pointer (some ⟨w.heap.size, 0, .none⟩)), isV (.agg XA), isV (.agg Iv), isV (.agg Xn), Fresh w3.heap.size (.cells Zn 56 (0, 0))] ?t19 ?r19
 case' t19 => refine ⟨?_, ?_, ?_, ?_, ?_, trivial⟩ <;> intro ev X hT hb hk hf
 ·exact OpOk.s (fV ev 1 (.pointer (some ⟨w.heap.size, 0, .none⟩)) hk.1) hb
 ·exact OpOk.lp (fX ev 9 hf.1) (rowPart (on_blk_mul (H3.out.below hT).right.right) HpAA_0.out) hun HsXA.out
 ·exact OpOk.l (x := .tmp 3) hk.1 (on_blk_mul (H3.out.below hT)) hun HsIv.out
 ·exact OpOk.c2 (fX ev 10 hf.1) (fX ev 11 hf.2.1) hb (hk2.out X)
 ·exact OpOk.al hT.size (by simp [execOp, hzN, go_sem])
 intro w4 hX
 rintro _ rfl _ rfl _ rfl _ rfl _ ⟨g4, rfl, hgg4, hcg4⟩
 have H4 := hide (on_fresh H3.out hX hgg4 hcg4)
 have S4 := hide (S3.out.trans (Str.below hX))
 clear hX H3 S3 hgg4 hcg4
 go_wp2
 refine Rest.done ?_
 have H5 := hide (st0 H4.out (cs := Xn))
 have S5 := hide (S4.out.setRow (g4) Xn)
 have gW := on_blk_mul H4.out
 go_wp2_with (first
  | (refine wS gW HsXn HzXn HoXn ?_))
 refine hK3.out _ _ ?_
 clear hK3 K3
 generalize w4.setRow (g4) Xn = w5 at *
 clear gW H4 S4
 refine wp_seq_h fun K4 hK4 => ?_
 refine sQ 6 [isV (.pointer (some ⟨w.heap.size, 17, .none⟩)), isV (.agg YA), isV (.agg Iv), isV (.agg Yn), isV (.agg Yb), Fresh w5.heap.size (.cells ZB 22 (0, 0))] ?t20 ?r20
 case' t20 => refine ⟨?_, ?_, ?_, ?_, ?_, ?_, trivial⟩ <;> intro ev X hT hb hk hf
 ·exact OpOk.s (fV ev 1 (.pointer (some ⟨w.heap.size, 0, .none⟩)) hk.1) hb
 ·exact OpOk.lp (fX ev 13 hf.1) (rowPart (on_blk_mul (H5.out.below hT).right.right.right) HpAA_17.out) hun HsYA.out
 ·exact OpOk.l (x := .tmp 3) hk.1 (on_blk_mul (H5.out.below hT).right) hun HsIv.out
 ·exact OpOk.c2 (fX ev 14 hf.1) (fX ev 15 hf.2.1) hb (hk3.out X)
 ·exact OpOk.c1 (fX ev 16 hf.1) hb (hk4.out X)
 ·exact OpOk.al hT.size (by simp [execOp, hzB, go_sem])
 intro w6 hX
 rintro _ rfl _ rfl _ rfl _ rfl _ rfl _ ⟨g5, rfl, hgg5, hcg5⟩
 have H6 := hide (on_fresh H5.out hX hgg5 hcg5)
 have S6 := hide (S5.out.trans (Str.below hX))
 clear hX H5 S5 hgg5 hcg5
 go_wp2
 refine Rest.done ?_
 have H7 := hide (st0 H6.out (cs := Yb))
 have S7 := hide (S6.out.setRow (g5) Yb)
 have gW := on_blk_mul H6.out
 go_wp2_with (first
  | (refine wS gW HsYb HzYb HoYb ?_))
 refine hK4.out _ _ ?_
 clear hK4 K4
 generalize w6.setRow (g5) Yb = w7 at *
 clear gW H6 S6
 have hc4 := (cell_of_row w7 g4 0 Xn _ _ (on_blk_mul H7.out.right)).trans Hx0.out
 have hr2 := Hr2.out
 refine (Decidable.em (x % 2 = 1)).elim (fun hb => ?_) (fun hb => ?_)
 ·rw [hb] at hr2
  have hst := SP.on.setCell (i := 31) H7.out (.int .u8 ((tt : Int) + 128))
  rw [HSet.out hb] at hst
  have htl := Ht.out
  have hcell := (cell_of_row w7 g5 31 Yb _ _ (on_blk_mul H7.out)).trans Hcl.out
  have hfr := frozen_of_row w7 g5 31 _ _ (on_blk_mul H7.out)
  clear hb
  have H8 := hide hst
  have S8 := hide (S7.out.setCell ⟨g5, 31, .none⟩ (.int .u8 ((tt : Int) + 128)))
  clear hst
  have gy := on_blk_mul H8.out
  have gR := on_blk_mul H8.out.right.right.right
  have HB := hide (all_below H8.out.right.right.right.right.right S8.out)
  go_wp2_with (first
   | (refine wS gR HsRb HzRb HoRb ?_)
   | (refine wL gy hub HsRb ?_))
  exact retR Tryz.results15 gR hub HsRb.out rfl HB.out (by omega)
 have hb0 : x % 2 = 0 := by omega
 rw [hb0] at hr2
 have hRY : Rb = Yb := by rw [← HYb.out, ← HRb.out, HN0.out hb]
 have HRY := hide hRY
 clear hRY hb hb0
 have gy := on_blk_mul H7.out
 have gR := on_blk_mul H7.out.right.right.right
 have HB := hide (all_below H7.out.right.right.right.right.right S7.out)
 go_wp2_with (first
  | (refine wS gR HsYb HzYb HoYb ?_)
  | (refine wL gy hub HsYb ?_))
 exact retE Tryz.results15 gR hub HsYb.out rfl (by rw [HRY.out]) HB.out (by omega)
theorem mencode_any {s : Ed.Tp} {p : Ed.Pt} (h : s.has p) (w : World) :
  Calls Tryz.prog 15 #[.agg (tpC s)] w fun e w' => e = .returned (.agg (zb (Ed.enc p))) ∧ Below w.heap.size w w' := by
 have h1 := mencode_nat _ _ _ s.x.isLt s.y.isLt s.z.isLt w
 obtain ⟨e1, e2⟩ := Ed.Pj.point h
 have f1 : s.x.val * pwr s.z.val (P5 - 2) 256 % P5 = p.x.val := by rw [← Ed.inv_val, ← Ed.val_mul, e1]
 have f2 : s.y.val * pwr s.z.val (P5 - 2) 256 % P5 = p.y.val := by rw [← Ed.inv_val, ← Ed.val_mul, e2]
 rw [f1, f2] at h1
 exact h1
theorem e8_lit : q4 E8 = #[.int .u64 18446744073709551614, .int .u64 18446744073709551615, .int .u64 18446744073709551615, .int .u64 1152921504606846975] := by
 rw [q4_lit]
 have h0 : limb E8 0 = 18446744073709551614 := by decide +kernel
 have h1 : limb E8 1 = 18446744073709551615 := by decide +kernel
 have h2 : limb E8 2 = 18446744073709551615 := by decide +kernel
 have h3 : limb E8 3 = 1152921504606846975 := by decide +kernel
 rw [h0, h1, h2, h3]; rfl
theorem qf_lit : q4 QF = #[.int .u64 18446744073709551611, .int .u64 18446744073709551615, .int .u64 18446744073709551615, .int .u64 2305843009213693951] := by
 rw [q4_lit]
 have h0 : limb QF 0 = 18446744073709551611 := by decide +kernel
 have h1 : limb QF 1 = 18446744073709551615 := by decide +kernel
 have h2 : limb QF 2 = 18446744073709551615 := by decide +kernel
 have h3 : limb QF 3 = 2305843009213693951 := by decide +kernel
 rw [h0, h1, h2, h3]; rfl
theorem run_e8 (w : World) : (Instr.build 51 #[(0, .int .u64 18446744073709551614), (1, .int .u64 18446744073709551615), (2, .int .u64 18446744073709551615), (3, .int .u64 1152921504606846975)]).run Tryz.prog w = .ok (.agg (q4 E8)) w := by
 rw [e8_lit]; kernel_rfl
theorem run_qf (w : World) : (Instr.build 51 #[(0, .int .u64 18446744073709551611), (1, .int .u64 18446744073709551615), (2, .int .u64 18446744073709551615), (3, .int .u64 2305843009213693951)]).run Tryz.prog w = .ok (.agg (q4 QF)) w := by
 rw [qf_lit]; kernel_rfl
theorem QF_lt : QF < 18446744073709551616 ^ 4 := by decide +kernel
theorem E8_lt : E8 < 18446744073709551616 ^ 4 := by decide +kernel
theorem b4c_arm {ops : Array Oper} {rest : List Oper} {o : Oper} {a : Act} {w : World} {Q : Exit → Act → World → Prop} (hw : Region.wanted o (yielded ops a.tmps) = true) (T : TypeId) (c0 c1 c2 c3 : Value) (ho : o.op = .build T #[(0, .const c0), (1, .const c1), (2, .const c2), (3, .const c3)])
  (R : Array Value) (hb : (Instr.build T #[(0, c0), (1, c1), (2, c2), (3, c3)]).run Tryz.prog w = .ok (.agg R) w) (hk : wpList Tryz.prog ops Q rest (a.put o.dst (.agg R)) w) : wpList Tryz.prog ops Q (o :: rest) a w := by
 have hr : (execOp a.eval o).run Tryz.prog w = .ok (.value (.agg R)) w := by
  unfold execOp
  rw [ho]
  simp only [List.map_toArray, List.map_cons, List.map_nil, Act.eval]
  rw [Sem.run_bind, hb]; rfl
 exact wpList_step fun _ hK => by
  rw [if_pos hw]; unfold Oper.wp; simp only [hr]; exact hK _ _ hk
theorem mroot_any (a : Nat) (ba : a < P5) (w : World) :
  Calls Tryz.prog 76 #[.agg (n17 a)] w fun e w' => e = .returned (.agg (n17 (Ed.droot a))) ∧ Below w.heap.size w w' := by
 have hdr : Ed.droot a = if root1 a * root1 a % P5 = a then root1 a else root1 a * Ed.iD % P5 := rfl
 rw [hdr]
 clear hdr
 have hun := Tryz.underlying56
 have hu4 := Tryz.underlying51
 have hzN := nZero
 have hzL := eZero4
 have h0 := ((on_all w).alloc (.cells (n17 a) 56)).alloc (.cells (n17 0) 56)
 have s0 := ((Str.refl w).alloc (.cells (n17 a) 56)).alloc (.cells (n17 0) 56)
 try simp only [World.size_alloc] at h0
 have H1 := hide h0
 have S1 := hide s0
 clear h0 s0
 have k1 : ∀ X, Calls _ _ _ X fun e w' => e = .returned (.agg (n17 (root1 a))) ∧ Below X.heap.size X w' := fun X => rpower_any a E8 (lt255 ba) E8_lt X
 have k2 : ∀ X, Calls _ _ _ X fun e w' => e = .returned (.agg (n17 Ed.iD)) ∧ Below X.heap.size X w' := fun X => rpower_any 2 QF (lt255 (by decide)) QF_lt X
 have br : root1 a < P5 := pwr_lt _ _ _
 have bi : Ed.iD < P5 := pwr_lt _ _ _
 generalize root1 a = r at *
 generalize Ed.iD = ivx at *
 have k3 := fun X => rmul5 r r br br X
 have bs : r * r % P5 < P5 := Nat.mod_lt _ P5_pos
 generalize r * r % P5 = rr at *
 have k4 := fun X => rmul5 r ivx br bi X
 generalize r * ivx % P5 = ri at *
 have hp := hide (fun h : rr = a => show n17 (if rr = a then r else ri) = n17 r by rw [if_pos h])
 have hnn := hide (fun h : ¬ rr = a => show n17 (if rr = a then r else ri) = n17 ri by rw [if_neg h])
 have hk5 := hide (fun X => rsm 2 (by decide) (by decide) X)
 have hE := hide (fun X => eq_n17 X 9998 rr a (lt255 bs) (lt255 ba))
 have hb8 := hide run_e8
 have hbf := hide run_qf
 have HgdN : Hid (Tryz.prog.eqGuardType Tryz.prog.depth 56 = false) := hide (by kernel_rfl)
 have hk1 := hide k1
 have hk2 := hide k2
 have hk3 := hide k3
 have hk4 := hide k4
 clear k1 k2 k3 k4 br bi bs ba
 obtain ⟨HsRes, HoRes, HzRes⟩ := nF (if rr = a then r else ri)
 obtain ⟨HsAa, HoAa, HzAa⟩ := nF a
 obtain ⟨HsRr, HoRr, HzRr⟩ := nF r
 obtain ⟨HsRR, HoRR, HzRR⟩ := nF rr
 obtain ⟨HsIv, HoIv, HzIv⟩ := nF ivx
 obtain ⟨HsRI, HoRI, HzRI⟩ := nF ri
 obtain ⟨HsTw, HoTw, HzTw⟩ := nF 2
 obtain ⟨HsE8v, HoE8v, HzE8v⟩ := b3 (eInfo4 E8) (eOne E8) (eSize 0 E8)
 obtain ⟨HsQFv, HoQFv, HzQFv⟩ := b3 (eInfo4 QF) (eOne QF) (eSize 0 QF)
 generalize n17 (if rr = a then r else ri) = Res at *
 generalize n17 a = Aa at *
 generalize n17 r = Rr at *
 generalize n17 rr = RR at *
 generalize n17 ivx = Iv at *
 generalize n17 ri = RI at *
 generalize n17 2 = Tw at *
 generalize q4 E8 = E8v at *
 generalize q4 QF = QFv at *
 generalize n17 0 = Zn at *
 generalize q4 0 = Z4 at *
 go_enter Tryz.func76, Tryz.ntmps76
 refine wp_seq_h fun K5 hK5 => ?_
 go_wp2
 refine hK5.out _ _ ?_
 clear hK5 K5
 generalize (w.alloc (.cells Aa 56)).alloc (.cells Zn 56) = w1 at *
 refine wp_seq_h fun K6 hK6 => ?_
 refine sQ 4 [isV (.agg Aa), isV (.agg E8v), isV (.agg Rr), Fresh w1.heap.size (.cells Zn 56 (0, 0))] ?t21 ?r21
 case' t21 => refine ⟨?_, ?_, ?_, ?_, trivial⟩ <;> intro ev X hT hb hk hf
 ·exact OpOk.l (x := .tmp 1) hk.1 (on_blk_mul (H1.out.below hT).right) hun HsAa.out
 ·exact OpOk.r (by simp [execOp, hb8.out X, hb.1])
 ·exact OpOk.c2 (fX ev 5 hf.1) (fX ev 6 hf.2.1) hb (hk1.out X)
 ·exact OpOk.al hT.size (by simp [execOp, hzN, go_sem])
 intro w2 hX
 rintro _ rfl _ rfl _ rfl _ ⟨g3, rfl, hgg3, hcg3⟩
 have H2 := hide (on_fresh H1.out hX hgg3 hcg3)
 have S2 := hide (S1.out.trans (Str.below hX))
 clear hX H1 S1 hgg3 hcg3
 go_wp2
 refine Rest.done ?_
 have H3 := hide (st0 H2.out (cs := Rr))
 have S3 := hide (S2.out.setRow (g3) Rr)
 have gW := on_blk_mul H2.out
 go_wp2_with (first
  | (refine wS gW HsRr HzRr HoRr ?_))
 refine hK6.out _ _ ?_
 clear hK6 K6
 generalize w2.setRow (g3) Rr = w3 at *
 clear gW H2 S2
 go_wp2_with fail
 refine (Decidable.em (rr = a)).elim (fun hra => ?_) (fun hra => ?_)
 ·have he2 := fun X => (hE.out X).trans (by rw [decide_eq_true hra])
  have hE2 := hide he2
  have HRes := hide (hp.out hra)
  clear hra he2
  refine wp_tail 4 (iv [.agg Rr, .agg Rr, .agg RR, .agg Aa]) ?t22 ?r22
  case' t22 => refine ⟨?_, ?_, ?_, ?_, trivial⟩ <;> intro ev X hT hb hk hf
  ·exact OpOk.l (x := .tmp 3) hk.1 (on_blk_mul (H3.out.below hT)) hun HsRr.out
  ·exact OpOk.l (x := .tmp 3) hk.1 (on_blk_mul (H3.out.below hT)) hun HsRr.out
  ·exact OpOk.c2 (fX ev 8 hf.1) (fX ev 9 hf.2.1) hb (hk3.out X)
  ·exact OpOk.l (x := .tmp 1) hk.1 (on_blk_mul (H3.out.below hT).right.right) hun HsAa.out
  intro w4 hX
  rintro _ rfl _ rfl _ rfl _ rfl
  obtain ⟨H4, S4⟩ := nx H3.out S3.out hX
  clear hX H3 S3
  go_wp2
  refine Rest.done ?_
  have gr := on_blk_mul H4.out
  have gR := on_blk_mul H4.out.right
  have HB := hide (all_below H4.out.right.right.right S4.out)
  go_wp2_with (first
   | (refine wS gR HsRr HzRr HoRr ?_)
   | (refine eq_arm rfl _ _ _ _ rfl HgdN.out RR Aa rfl rfl true (hE2.out _) ?_)
   | (refine wL gr hun HsRr ?_))
  exact retE Tryz.results76 gR hun HsRr.out rfl (by rw [HRes.out]) HB.out (by omega)
 have he2 := fun X => (hE.out X).trans (by rw [decide_eq_false hra])
 have hE2 := hide he2
 have HRes := hide (hnn.out hra)
 clear hra he2
 refine wp_tail 4 (iv [.agg Rr, .agg Rr, .agg RR, .agg Aa]) ?t23 ?r23
 case' t23 => refine ⟨?_, ?_, ?_, ?_, trivial⟩ <;> intro ev X hT hb hk hf
 ·exact OpOk.l (x := .tmp 3) hk.1 (on_blk_mul (H3.out.below hT)) hun HsRr.out
 ·exact OpOk.l (x := .tmp 3) hk.1 (on_blk_mul (H3.out.below hT)) hun HsRr.out
 ·exact OpOk.c2 (fX ev 8 hf.1) (fX ev 9 hf.2.1) hb (hk3.out X)
 ·exact OpOk.l (x := .tmp 1) hk.1 (on_blk_mul (H3.out.below hT).right.right) hun HsAa.out
 intro w4 hX
 rintro _ rfl _ rfl _ rfl _ rfl
 obtain ⟨H4, S4⟩ := nx H3.out S3.out hX
 clear hX H3 S3
 go_wp2
 refine Rest.done ?_
 go_wp2_with (first
  | (refine eq_arm rfl _ _ _ _ rfl HgdN.out RR Aa rfl rfl false (hE2.out _) ?_))
 refine (hk5.out _).mono ?_
 rintro e w5 ⟨rfl, hB⟩
 obtain ⟨H5, S5⟩ := nx H4.out S4.out hB
 clear hB H4 S4
 go_wp2_with (first
  | (refine b4c_arm rfl _ _ _ _ _ rfl QFv (hbf.out _) ?_))
 refine (hk2.out _).mono ?_
 rintro e w6 ⟨rfl, hB⟩
 obtain ⟨H6, S6⟩ := nx H5.out S5.out hB
 clear hB H5 S5
 obtain ⟨gN, gM, H7, S7⟩ := newV H6.out S6.out Zn Iv 56
 have gL0 := on_blk_mul H7.out.right
 have gL1 := on_blk_mul H7.out
 go_wp2_with (first
  | (refine wS gN HsIv HzIv HoIv ?_)
  | (refine wL gL0 hun HsRr ?_)
  | (refine wL gL1 hun HsIv ?_))
 clear gL0 gL1
 generalize (w6.alloc (.cells Zn 56)).setRow w6.heap.size Iv = w7 at *
 clear gN gM H6 S6
 generalize w6.heap.size = p4 at *
 refine (hk4.out _).mono ?_
 rintro e w8 ⟨rfl, hB⟩
 obtain ⟨H8, S8⟩ := nx H7.out S7.out hB
 clear hB H7 S7
 have gR := on_blk_mul H8.out.right.right
 have HB := hide (all_below H8.out.right.right.right.right S8.out)
 go_wp2_with (first
  | (refine wS gR HsRI HzRI HoRI ?_))
 exact retE Tryz.results76 gR hun HsRI.out rfl (by rw [HRes.out]) HB.out (by omega)
def decW (n : Nat) : Value := match Ed.decPt (bl n) with | some p => .tuple #[.agg (mC p.x.val p.y.val 1), .bool true] | Option.none => .tuple #[.agg (mC 0 0 0), .bool false]
theorem decW_bad (n : Nat) (h : ¬ Ed.isPt (bl n) = true) : decW n = .tuple #[.agg (mC 0 0 0), .bool false] := by
 unfold decW; rw [Ed.decPt_none _ h]
theorem decW_good (n : Nat) (h : Ed.isPt (bl n) = true) : decW n = .tuple #[.agg (mC (Ed.xB (bl n)) (Ed.yB (bl n)) 1), .bool true] := by
 unfold decW; rw [Ed.decPt_some _ h]
 show Value.tuple #[.agg (mC (Ed.el (Ed.xB (bl n))).val (Ed.el (Ed.yB (bl n))).val 1), .bool true] = _
 rw [Ed.el_val _ (Ed.xB_ok _ h).1, Ed.el_val _ ((Ed.isPt_iff _).1 h).1]
theorem decW_far (n : Nat) (hn : n < 256 ^ 32) (h : ¬ n % 2 ^ 255 < P5) : decW n = .tuple #[.agg (mC 0 0 0), .bool false] :=
 decW_bad n (fun hp => h (by have := ((Ed.isPt_iff _).1 hp).1; rwa [yB_bl n hn] at this))
theorem decW_no (n : Nat) (hn : n < 256 ^ 32) (h : ¬ Ed.droot (Ed.aF (n % 2 ^ 255)) * Ed.droot (Ed.aF (n % 2 ^ 255)) % P5 = Ed.aF (n % 2 ^ 255)) : decW n = .tuple #[.agg (mC 0 0 0), .bool false] :=
 decW_bad n (fun hp => h (by
  have := ((Ed.isPt_iff _).1 hp).2.1
  rw [yB_bl n hn] at this
  rw [Ed.droot_sq]; exact this))
theorem droot_zero (a : Nat) (h : Ed.droot a * Ed.droot a % P5 = a) : Ed.droot a = 0 ↔ a = 0 := by
 have hl := Ed.droot_lt a
 generalize Ed.droot a = r at *
 constructor
 ·intro e
  subst e
  rw [Nat.zero_mul] at h
  exact h.symm.trans (Nat.zero_mod _)
 intro e
 rw [e] at h
 exact Ed.sq_zero _ hl h
theorem decW_zero (n : Nat) (hn : n < 256 ^ 32) (hr : Ed.droot (Ed.aF (n % 2 ^ 255)) * Ed.droot (Ed.aF (n % 2 ^ 255)) % P5 = Ed.aF (n % 2 ^ 255)) (ho : decide (2 ^ 255 ≤ n) = true) (h : Ed.droot (Ed.aF (n % 2 ^ 255)) = 0) : decW n = .tuple #[.agg (mC 0 0 0), .bool false] :=
 decW_bad n (fun hp => by
  have := ((Ed.isPt_iff _).1 hp).2.2
  rw [yB_bl n hn, oddB_bl n hn] at this
  exact this ⟨ho, (droot_zero _ hr).1 h⟩)
theorem decW_ok (n : Nat) (hn : n < 256 ^ 32) (hy : n % 2 ^ 255 < P5) (hr : Ed.droot (Ed.aF (n % 2 ^ 255)) * Ed.droot (Ed.aF (n % 2 ^ 255)) % P5 = Ed.aF (n % 2 ^ 255)) (h : ¬ (decide (2 ^ 255 ≤ n) = true ∧ Ed.droot (Ed.aF (n % 2 ^ 255)) = 0)) :
  decW n = .tuple #[.agg (mC (Ed.turnD (Ed.droot (Ed.aF (n % 2 ^ 255))) (decide (2 ^ 255 ≤ n))) (n % 2 ^ 255) 1), .bool true] := by
 have hr2 := hr
 rw [Ed.droot_sq] at hr2
 have h0 : ¬ (decide (2 ^ 255 ≤ n) = true ∧ Ed.aF (n % 2 ^ 255) = 0) := fun h2 => h ⟨h2.1, (droot_zero _ hr).2 h2.2⟩
 have hp : Ed.isPt (bl n) = true := (Ed.isPt_iff _).2 (by
  rw [yB_bl n hn, oddB_bl n hn]
  exact ⟨hy, hr2, h0⟩)
 rw [decW_good n hp, Ed.turn_same _ (Ed.aF_lt _) _ hr2 h0]
 unfold Ed.xB
 rw [yB_bl n hn, oddB_bl n hn]
theorem run_bm0 (w : World) : (Instr.build 58 #[]).run Tryz.prog w = .ok (.agg (mC 0 0 0)) w := by
 unfold mC
 rw [ds_lit]
 simp only [dg_0]
 kernel_rfl
theorem b3_arm {ops : Array Oper} {rest : List Oper} {o : Oper} {a : Act} {w : World} {Q : Exit → Act → World → Prop} (hw : Region.wanted o (yielded ops a.tmps) = true) (T : TypeId) (i j k : Nat) (x y z : Operand) (ho : o.op = .build T #[(i, x), (j, y), (k, z)])
  (A B C R : Array Value) (hx : a.eval x = .agg A) (hy : a.eval y = .agg B) (hz : a.eval z = .agg C) (hb : (Instr.build T #[(i, .agg A), (j, .agg B), (k, .agg C)]).run Tryz.prog w = .ok (.agg R) w) (hk : wpList Tryz.prog ops Q rest (a.put o.dst (.agg R)) w) : wpList Tryz.prog ops Q (o :: rest) a w := by
 have hr : (execOp a.eval o).run Tryz.prog w = .ok (.value (.agg R)) w := by
  unfold execOp
  rw [ho]
  simp only [List.map_toArray, List.map_cons, List.map_nil, hx, hy, hz]
  rw [Sem.run_bind, hb]; rfl
 exact wpList_step fun _ hK => by
  rw [if_pos hw]; unfold Oper.wp; simp only [hr]; exact hK _ _ hk
theorem mdecode_any (n : Nat) (hn : n < 256 ^ 32) (w : World) :
  Calls Tryz.prog 42 #[.agg (zB n)] w fun e w' => e = .returned (decW n) ∧ Below w.heap.size w w' := by
 have hub := Tryz.underlying22
 have hum := Tryz.underlying58
 have hun := Tryz.underlying56
 have hzB := zBZero
 have hzM := mZero
 have hzN := nZero
 have h0 := ((on_all w).alloc (.cells (zB n) 22)).alloc (.cells (mC 0 0 0) 58)
 have s0 := ((Str.refl w).alloc (.cells (zB n) 22)).alloc (.cells (mC 0 0 0) 58)
 try simp only [World.size_alloc] at h0
 have H1 := hide h0
 have S1 := hide s0
 clear h0 s0
 have hM := Nat.mod_lt n (show 0 < 2 ^ 255 from Nat.pow_pos (by decide))
 have k1 := fun X => frombytes_any (bl n) (bl_len n) X
 rw [leN_bl n hn] at k1
 change ∀ X, Calls _ _ #[.agg (zB n)] X fun e w' => e = .returned (.tuple #[.agg (n17 (n % 2 ^ 255)), .bool (decide (2 ^ 255 ≤ n))]) ∧ Below X.heap.size X w' at k1
 have hFar := hide (decW_far n hn)
 have hNo := hide (decW_no n hn)
 have hZero := hide (decW_zero n hn)
 have hOk := hide (decW_ok n hn)
 have haf := fun h : n % 2 ^ 255 < P5 => aF_nat (n % 2 ^ 255) h
 generalize n % 2 ^ 255 = y at *
 generalize decide (2 ^ 255 ≤ n) = od at *
 have hk1 := hide k1
 have hk2 := hide (fun X => rless_any y P5 hM Ed.P5_255 X)
 have hkP := hide (fun X => rp_any X)
 have hk3 := hide (fun X => rsm 1 (by decide) (by decide) X)
 have hk0 := hide (fun X => rsm 0 (by decide) (by decide) X)
 have hkD := hide (fun X => md_any X)
 have b1 : 1 < P5 := by decide
 have bd : Ed.dN < P5 := by decide
 have bda := Ed.droot_lt (Ed.aF y)
 have baf := Ed.aF_lt y
 generalize Ed.dN = d at *
 have k4 := fun (h : y < P5) X => rmul5 y y h h X
 have bs : y * y % P5 < P5 := Nat.mod_lt _ P5_pos
 generalize y * y % P5 = s at *
 have k5 := fun X => rsub_any s 1 bs b1 X
 have bt : (s + (P5 - 1)) % P5 < P5 := Nat.mod_lt _ P5_pos
 generalize (s + (P5 - 1)) % P5 = t at *
 have k6 := fun X => rmul5 d s bd bs X
 have bds : d * s % P5 < P5 := Nat.mod_lt _ P5_pos
 generalize d * s % P5 = ds at *
 have k7 := fun X => radd5 1 ds b1 bds X
 rw [Nat.add_comm 1 ds] at k7
 have bu : (ds + 1) % P5 < P5 := Nat.mod_lt _ P5_pos
 generalize (ds + 1) % P5 = u at *
 have k8 := fun X => rinvert_any u bu X
 have bv : pwr u (P5 - 2) 256 < P5 := pwr_lt _ _ _
 generalize pwr u (P5 - 2) 256 = vi at *
 have k9 := fun X => rmul5 t vi bt bv X
 have ba : t * vi % P5 < P5 := Nat.mod_lt _ P5_pos
 generalize t * vi % P5 = a at *
 have Hle := hide (fun h => (haf h).symm)
 have k10 := fun X => mroot_any a ba X
 have hE1 := hide (fun X => eq_n17 X 9998 (Ed.droot a * Ed.droot a % P5) a (lt255 (Nat.mod_lt _ P5_pos)) (lt255 ba))
 have bx := Ed.droot_lt a
 have hk4 := hide k4
 have hk5 := hide k5
 have hk6 := hide k6
 have hk7 := hide k7
 have hk8 := hide k8
 have hk9 := hide k9
 have hk10 := hide k10
 generalize hxx : Ed.droot a = x at *
 have k11 := fun X => rmul5 x x bx bx X
 have k12 := fun X => rneg_any x bx X
 have hE2 := hide (fun X => eq_n17 X 9998 x 0 (lt255 bx) (by decide))
 have Hbm := hide (fun x X => run_bm x y 1 X)
 have Hb1 := hide (fun X => run_bm x y 1 X)
 have Hb2 := hide (fun X => run_bm ((P5 - x) % P5) y 1 X)
 have Hb0 := hide run_bm0
 have hk11 := hide k11
 have hk12 := hide k12
 have Hx0 := hide (show (n17 x)[0]? = some (nv (dg x 0)) from dvs_get _ _ _ (ds_get 17 x 0 (by decide)))
 have Hr2 := hide (show ((dg x 0 : Nat) : Int).tmod 2 = ((x % 2 : Nat) : Int) by
  rw [Int.tmod_eq_emod_of_nonneg (by omega)]; unfold dg; rw [Nat.pow_zero, Nat.div_one]; omega)
 have HxxA := hide hxx
 generalize hxs : x * x % P5 = xs at *
 have Hxs := hide hxs
 have HsZm := hide (mInfo 0 0 0)
 have HoZm := hide (mC_one 0 0 0)
 clear k1 k4 k5 k6 k7 k8 k9 k10 k11 k12 b1 bd bs bt bds bu bv ba hM hn haf bx hxx hxs bda baf
 have HgdN : Hid (Tryz.prog.eqGuardType Tryz.prog.depth 56 = false) := hide (by kernel_rfl)
 obtain ⟨HsBn, HoBn, HzBn⟩ := b3 (zBInfo n) (zBOne n) (zBSize 0 n)
 obtain ⟨HsRp, HoRp, HzRp⟩ := b3 (mInfo x y 1) (mC_one x y 1) (mSize 0 0 0 x y 1)
 obtain ⟨HsRn, HoRn, HzRn⟩ := b3 (mInfo ((P5 - x) % P5) y 1) (mC_one ((P5 - x) % P5) y 1) (mSize 0 0 0 ((P5 - x) % P5) y 1)
 obtain ⟨HsYe, HoYe, HzYe⟩ := nF y
 obtain ⟨HsPp, HoPp, HzPp⟩ := nF P5
 obtain ⟨HsOn, HoOn, HzOn⟩ := nF 1
 obtain ⟨HsSq, HoSq, HzSq⟩ := nF s
 obtain ⟨HsTt, HoTt, HzTt⟩ := nF t
 obtain ⟨HsDd, HoDd, HzDd⟩ := nF d
 obtain ⟨HsDS, HoDS, HzDS⟩ := nF ds
 obtain ⟨HsUu, HoUu, HzUu⟩ := nF u
 obtain ⟨HsVv, HoVv, HzVv⟩ := nF vi
 obtain ⟨HsAa, HoAa, HzAa⟩ := nF a
 obtain ⟨HsXe, HoXe, HzXe⟩ := nF x
 obtain ⟨HsXX, HoXX, HzXX⟩ := nF xs
 obtain ⟨HsNe, HoNe, HzNe⟩ := b3 (nInfo ((P5 - x) % P5)) (nOne ((P5 - x) % P5)) (nSize 0 ((P5 - x) % P5))
 generalize zB n = Bn at *
 generalize hvRp : mC x y 1 = Rp at *
 have HRp := hide hvRp
 clear hvRp
 generalize hvRn : mC ((P5 - x) % P5) y 1 = Rn at *
 have HRn := hide hvRn
 clear hvRn
 generalize n17 y = Ye at *
 generalize n17 P5 = Pp at *
 generalize n17 1 = On at *
 generalize n17 s = Sq at *
 generalize n17 t = Tt at *
 generalize n17 d = Dd at *
 generalize n17 ds = DS at *
 generalize n17 u = Uu at *
 generalize n17 vi = Vv at *
 generalize n17 a = Aa at *
 generalize n17 x = Xe at *
 generalize n17 xs = XX at *
 generalize n17 ((P5 - x) % P5) = Ne at *
 generalize zB 0 = ZB at *
 generalize mC 0 0 0 = Zm at *
 generalize n17 0 = Zn at *
 go_enter Tryz.func42, Tryz.ntmps42
 refine wp_seq_h fun K1 hK1 => ?_
 go_wp2
 refine hK1.out _ _ ?_
 clear hK1 K1
 generalize (w.alloc (.cells Bn 22)).alloc (.cells Zm 58) = w1 at *
 have gA := on_blk_mul H1.out.right
 go_wp2_with (first
  | (refine wL gA hub HsBn ?_))
 clear gA
 refine (hk1.out _).mono ?_
 rintro e w2 ⟨rfl, hB⟩
 obtain ⟨H2, S2⟩ := nx H1.out S1.out hB
 clear hB H1 S1
 obtain ⟨gN, gM, H3, S3⟩ := newV H2.out S2.out Zn Ye 56
 go_wp2_with (first
  | (refine wS gN HsYe HzYe HoYe ?_))
 generalize (w2.alloc (.cells Zn 56)).setRow w2.heap.size Ye = w3 at *
 clear gN gM H2 S2
 generalize w2.heap.size = p4 at *
 refine (Decidable.em (y < P5)).symm.elim (fun hyy => ?_) (fun hyy => ?_)
 ·skip
  as_aux_lemma =>
  have HF := hide (hFar.out hyy)
  have hk2b : Hid (∀ X, Calls Tryz.prog 75 #[.agg Ye, .agg Pp] X fun e w' => e = .returned (.bool false) ∧ Below X.heap.size X w') := hide fun X => by have := hk2.out X; rw [decide_eq_false hyy] at this; exact this
  clear hyy
  refine wp_tail 3 (iv [.agg Ye, .agg Pp, .bool false]) ?t24 ?r24
  case' t24 => refine ⟨?_, ?_, ?_, trivial⟩ <;> intro ev X hT hb hk hf
  ·exact OpOk.l (x := .tmp 4) hk.1 (on_blk_mul (H3.out.below hT)) hun HsYe.out
  ·exact OpOk.c0 hb (hkP.out X)
  ·exact OpOk.c2 (fX ev 15 hf.1) (fX ev 16 hf.2.1) hb (hk2b.out X)
  intro w4 hX
  rintro _ rfl _ rfl _ rfl
  obtain ⟨H4, S4⟩ := nx H3.out S3.out hX
  clear hX H3 S3
  go_wp2
  refine Rest.done ?_
  have gR := on_blk_mul H4.out.right
  have HB := hide (all_below H4.out.right.right.right S4.out)
  go_wp2_with (first
   | (refine wS gR HsZm.out rfl HoZm.out ?_)
   | (refine b0_arm rfl 58 rfl Zm (Hb0.out _) ?_))
  exact retT Tryz.results42 gR hum HsZm.out rfl (.bool false) (by rw [HF.out]) HB.out (by omega)
 have hk2b : Hid (∀ X, Calls Tryz.prog 75 #[.agg Ye, .agg Pp] X fun e w' => e = .returned (.bool true) ∧ Below X.heap.size X w') := hide fun X => by have := hk2.out X; rw [decide_eq_true hyy] at this; exact this
 have haf2 := Hle.out hyy
 rw [← haf2, HxxA.out] at hNo hZero hOk
 rw [Hxs.out] at hNo hZero hOk
 have hk4b := hide (fun X => hk4.out hyy X)
 have HNo := hide (fun h => hNo.out h)
 have HZero := hide (fun h => hZero.out h)
 have HOk := hide (fun h => hOk.out hyy h)
 clear hyy haf2
 refine wp_tail 3 (iv [.agg Ye, .agg Pp, .bool true]) ?t25 ?r25
 case' t25 => refine ⟨?_, ?_, ?_, trivial⟩ <;> intro ev X hT hb hk hf
 ·exact OpOk.l (x := .tmp 4) hk.1 (on_blk_mul (H3.out.below hT)) hun HsYe.out
 ·exact OpOk.c0 hb (hkP.out X)
 ·exact OpOk.c2 (fX ev 15 hf.1) (fX ev 16 hf.2.1) hb (hk2b.out X)
 intro w4 hX
 rintro _ rfl _ rfl _ rfl
 obtain ⟨H4, S4⟩ := nx H3.out S3.out hX
 clear hX H3 S3
 go_wp2
 refine Rest.done ?_
 go_wp2_with fail
 refine (hk3.out _).mono ?_
 rintro e w5 ⟨rfl, hB⟩
 obtain ⟨H5, S5⟩ := nx H4.out S4.out hB
 clear hB H4 S4
 obtain ⟨gN, gM, H6, S6⟩ := newV H5.out S5.out Zn On 56
 have gL0 := on_blk_mul H6.out.right
 go_wp2_with (first
  | (refine wS gN HsOn HzOn HoOn ?_)
  | (refine wL gL0 hun HsYe ?_))
 clear gL0
 generalize (w5.alloc (.cells Zn 56)).setRow w5.heap.size On = w6 at *
 clear gN gM H5 S5
 generalize w5.heap.size = p6 at *
 refine (hk4b.out _).mono ?_
 rintro e w7 ⟨rfl, hB⟩
 obtain ⟨H7, S7⟩ := nx H6.out S6.out hB
 clear hB H6 S6
 obtain ⟨gN, gM, H8, S8⟩ := newV H7.out S7.out Zn Sq 56
 go_wp2_with (first
  | (refine wS gN HsSq HzSq HoSq ?_))
 generalize (w7.alloc (.cells Zn 56)).setRow w7.heap.size Sq = w8 at *
 clear gN gM H7 S7
 generalize w7.heap.size = p7 at *
 refine wp_tail 11 [isV (.agg Sq), isV (.agg On), isV (.agg Tt), isV (.agg On), isV (.agg Dd), isV (.agg Sq), isV (.agg DS), isV (.agg Uu), isV (.agg Vv), isV (.agg Aa), Fresh w8.heap.size (.cells Zn 56 (0, 0))] ?t26 ?r26 (hk := kF)
 case' t26 => refine ⟨?_, ?_, ?_, ?_, ?_, ?_, ?_, ?_, ?_, ?_, ?_, trivial⟩ <;> intro ev X hT hb hk hf
 ·exact OpOk.l (x := .tmp 7) hk.1 (on_blk_mul (H8.out.below hT)) hun HsSq.out
 ·exact OpOk.l (x := .tmp 6) hk.1 (on_blk_mul (H8.out.below hT).right) hun HsOn.out
 ·exact OpOk.c2 (fX ev 24 hf.1) (fX ev 25 hf.2.1) hb (hk5.out X)
 ·exact OpOk.l (x := .tmp 6) hk.1 (on_blk_mul (H8.out.below hT).right) hun HsOn.out
 ·exact OpOk.c0 hb (hkD.out X)
 ·exact OpOk.l (x := .tmp 7) hk.1 (on_blk_mul (H8.out.below hT)) hun HsSq.out
 ·exact OpOk.c2 (fX ev 28 hf.1) (fX ev 29 hf.2.1) hb (hk6.out X)
 ·exact OpOk.c2 (fX ev 27 hf.1) (fX ev 30 hf.2.1) hb (hk7.out X)
 ·exact OpOk.c1 (fX ev 31 hf.1) hb (hk8.out X)
 ·exact OpOk.c2 (fX ev 26 hf.1) (fX ev 32 hf.2.1) hb (hk9.out X)
 ·exact OpOk.al hT.size (by simp [execOp, hzN, go_sem])
 intro w9 hX
 rintro _ rfl _ rfl _ rfl _ rfl _ rfl _ rfl _ rfl _ rfl _ rfl _ rfl _ ⟨g8, rfl, hgg8, hcg8⟩
 have H9 := hide (on_fresh H8.out hX hgg8 hcg8)
 have S9 := hide (S8.out.trans (Str.below hX))
 clear hX H8 S8 hgg8 hcg8
 go_wp2
 refine Rest.done ?_
 have H10 := hide (st0 H9.out (cs := Aa))
 have S10 := hide (S9.out.setRow (g8) Aa)
 have gW := on_blk_mul H9.out
 have gL := on_blk_mul H10.out
 go_wp2_with (first
  | (refine wS gW HsAa HzAa HoAa ?_)
  | (refine wL gL hun HsAa ?_))
 clear gL
 generalize w9.setRow (g8) Aa = w10 at *
 clear gW H9 S9
 refine (hk10.out _).mono ?_
 rintro e w11 ⟨rfl, hB⟩
 obtain ⟨H11, S11⟩ := nx H10.out S10.out hB
 clear hB H10 S10
 obtain ⟨gN, gM, H12, S12⟩ := newV H11.out S11.out Zn Xe 56
 go_wp2_with (first
  | (refine wS gN HsXe HzXe HoXe ?_))
 generalize (w11.alloc (.cells Zn 56)).setRow w11.heap.size Xe = w12 at *
 clear gN gM H11 S11
 generalize w11.heap.size = p9 at *
 refine (Decidable.em (xs = a)).symm.elim (fun hr => ?_) (fun hr => ?_)
 ·skip
  as_aux_lemma =>
  have HF := hide (HNo.out hr)
  have HE1b := hide (fun X => (hE1.out X).trans (by rw [decide_eq_false hr]))
  clear hr
  refine rG (iv [.agg Xe, .agg Xe, .agg XX, .agg Aa, .bool true, .bool true, undef, undef, undef, undef, undef, undef, .bool true]) ?t27 ?r27
  case' t27 => refine ⟨?_, ?_, ?_, ?_, ?_, ?_, ?_, ?_, ?_, ?_, ?_, ?_, ?_, trivial⟩ <;> intro ev X hT hb hk hf
  ·exact OpOk.l (x := .tmp 9) hk.1 (on_blk_mul (H12.out.below hT)) hun HsXe.out
  ·exact OpOk.l (x := .tmp 9) hk.1 (on_blk_mul (H12.out.below hT)) hun HsXe.out
  ·exact OpOk.c2 (fX ev 36 hf.1) (fX ev 37 hf.2.1) hb (hk11.out X)
  ·exact OpOk.l (x := .tmp 8) hk.1 (on_blk_mul (H12.out.below hT).right) hun HsAa.out
  ·exact OpOk.run (v := .bool true) (W' := X) (by
    unfold execOp
    simp only [fX ev 38 hf.1, fX ev 39 hf.2.1, Sem.run_bind, run_eqGuard_agg X _ _ _ _ _ _ HgdN.out, run_neq_struct, HE1b.out X, Result.andThen_ok]
    rfl) ⟨rfl, Stay.refl _⟩
  ·exact OpOk.m rfl hf.1
  ·exact .inl ⟨true, hf.1, fun h => (nomatch h), fun _ => rfl⟩
  ·exact .inl ⟨true, hf.2.1, fun h => (nomatch h), fun _ => rfl⟩
  ·exact .inr ⟨hf.1, rfl⟩
  ·exact .inr ⟨hf.1, rfl⟩
  ·exact .inr ⟨hf.2.2.1, rfl⟩
  ·exact .inl ⟨true, hf.2.2.1, fun h => (nomatch h), fun _ => rfl⟩
  ·exact OpOk.s2 (fX ev 41 hf.1) (fX ev 47 hf.2.1) hb
  intro w13 hX
  iterate 13 rintro _ rfl
  obtain ⟨H13, S13⟩ := nx H12.out S12.out hX
  clear hX H12 S12
  go_wp2
  refine Rest.done ?_
  have gR := on_blk_mul H13.out.right.right.right.right.right
  have HB := hide (all_below H13.out.right.right.right.right.right.right.right S13.out)
  go_wp2_with (first
   | (refine wS gR HsZm.out rfl HoZm.out ?_)
   | (refine b0_arm rfl 58 rfl Zm (Hb0.out _) ?_))
  exact retT Tryz.results42 gR hum HsZm.out rfl (.bool false) (by rw [HF.out]) HB.out (by omega)
 have HE1b := hide (fun X => (hE1.out X).trans (by rw [decide_eq_true hr]))
 have hcases : od = true ∨ od = false := by cases od <;> simp
 rcases hcases with rfl | rfl
 ·refine (Decidable.em (x = 0)).elim (fun hx => ?_) (fun hx => ?_)
  ·skip
   as_aux_lemma =>
   have HF := hide (HZero.out hr rfl hx)
   have HE2b := hide (fun X => (hE2.out X).trans (by rw [decide_eq_true hx]))
   clear hr hx
   refine rG (iv [.agg Xe, .agg Xe, .agg XX, .agg Aa, .bool false, .bool false, .bool true, .bool true, .agg Xe, .agg Zn, .bool true, .bool true, .bool true]) ?t28 ?r28
   case' t28 => refine ⟨?_, ?_, ?_, ?_, ?_, ?_, ?_, ?_, ?_, ?_, ?_, ?_, ?_, trivial⟩ <;> intro ev X hT hb hk hf
   ·exact OpOk.l (x := .tmp 9) hk.1 (on_blk_mul (H12.out.below hT)) hun HsXe.out
   ·exact OpOk.l (x := .tmp 9) hk.1 (on_blk_mul (H12.out.below hT)) hun HsXe.out
   ·exact OpOk.c2 (fX ev 36 hf.1) (fX ev 37 hf.2.1) hb (hk11.out X)
   ·exact OpOk.l (x := .tmp 8) hk.1 (on_blk_mul (H12.out.below hT).right) hun HsAa.out
   ·exact OpOk.run (v := .bool false) (W' := X) (by
     unfold execOp
     simp only [fX ev 38 hf.1, fX ev 39 hf.2.1, Sem.run_bind, run_eqGuard_agg X _ _ _ _ _ _ HgdN.out, run_neq_struct, HE1b.out X, Result.andThen_ok]
     rfl) ⟨rfl, Stay.refl _⟩
   ·exact OpOk.m rfl hf.1
   ·refine .inl ⟨false, hf.1, fun _ => ?_, fun h => (h rfl).elim⟩
    exact OpOk.m rfl (fV ev 5 (.bool true) hk.1)
   ·refine .inl ⟨false, hf.2.1, fun _ => ?_, fun h => (h rfl).elim⟩
    exact OpOk.m rfl (fX ev 42 hf.1)
   ·refine .inl ⟨true, hf.1, fun _ => ?_, fun h => (h rfl).elim⟩
    exact OpOk.l (fV ev 9 (.pointer (some ⟨p9, 0, .none⟩)) hk.1) (on_blk_mul (H12.out.below hT)) hun HsXe.out
   ·refine .inl ⟨true, hf.1, fun _ => ?_, fun h => (h rfl).elim⟩
    exact OpOk.c0 hb (hk0.out X)
   ·refine .inl ⟨true, hf.2.2.1, fun _ => ?_, fun h => (h rfl).elim⟩
    exact OpOk.run (v := .bool true) (W' := X) (by
     unfold execOp
     simp only [fX ev 44 hf.1, fX ev 45 hf.2.1, Sem.run_bind, run_eqGuard_agg X _ _ _ _ _ _ HgdN.out, run_eql_struct, HE2b.out X, Result.andThen_ok]
     rfl) ⟨rfl, Stay.refl _⟩
   ·refine .inl ⟨false, hf.2.2.1, fun _ => ?_, fun h => (h rfl).elim⟩
    exact OpOk.s2 (fX ev 43 hf.1) (fX ev 46 hf.2.1) hb
   ·exact OpOk.s2 (fX ev 41 hf.1) (fX ev 47 hf.2.1) hb
   intro w13 hX
   iterate 13 rintro _ rfl
   obtain ⟨H13, S13⟩ := nx H12.out S12.out hX
   clear hX H12 S12
   go_wp2
   refine Rest.done ?_
   have gR := on_blk_mul H13.out.right.right.right.right.right
   have HB := hide (all_below H13.out.right.right.right.right.right.right.right S13.out)
   go_wp2_with (first
    | (refine wS gR HsZm.out rfl HoZm.out ?_)
    | (refine b0_arm rfl 58 rfl Zm (Hb0.out _) ?_))
   exact retT Tryz.results42 gR hum HsZm.out rfl (.bool false) (by rw [HF.out]) HB.out (by omega)
  skip
  as_aux_lemma =>
  have HF := hide (HOk.out hr (fun h => hx h.2))
  have HE2b := hide (fun X => (hE2.out X).trans (by rw [decide_eq_false hx]))
  clear hr hx
  refine rG (iv [.agg Xe, .agg Xe, .agg XX, .agg Aa, .bool false, .bool false, .bool true, .bool true, .agg Xe, .agg Zn, .bool false, .bool false, .bool false]) ?t29 ?r29
  case' t29 => refine ⟨?_, ?_, ?_, ?_, ?_, ?_, ?_, ?_, ?_, ?_, ?_, ?_, ?_, trivial⟩ <;> intro ev X hT hb hk hf
  ·exact OpOk.l (x := .tmp 9) hk.1 (on_blk_mul (H12.out.below hT)) hun HsXe.out
  ·exact OpOk.l (x := .tmp 9) hk.1 (on_blk_mul (H12.out.below hT)) hun HsXe.out
  ·exact OpOk.c2 (fX ev 36 hf.1) (fX ev 37 hf.2.1) hb (hk11.out X)
  ·exact OpOk.l (x := .tmp 8) hk.1 (on_blk_mul (H12.out.below hT).right) hun HsAa.out
  ·exact OpOk.run (v := .bool false) (W' := X) (by
    unfold execOp
    simp only [fX ev 38 hf.1, fX ev 39 hf.2.1, Sem.run_bind, run_eqGuard_agg X _ _ _ _ _ _ HgdN.out, run_neq_struct, HE1b.out X, Result.andThen_ok]
    rfl) ⟨rfl, Stay.refl _⟩
  ·exact OpOk.m rfl hf.1
  ·refine .inl ⟨false, hf.1, fun _ => ?_, fun h => (h rfl).elim⟩
   exact OpOk.m rfl (fV ev 5 (.bool true) hk.1)
  ·refine .inl ⟨false, hf.2.1, fun _ => ?_, fun h => (h rfl).elim⟩
   exact OpOk.m rfl (fX ev 42 hf.1)
  ·refine .inl ⟨true, hf.1, fun _ => ?_, fun h => (h rfl).elim⟩
   exact OpOk.l (fV ev 9 (.pointer (some ⟨p9, 0, .none⟩)) hk.1) (on_blk_mul (H12.out.below hT)) hun HsXe.out
  ·refine .inl ⟨true, hf.1, fun _ => ?_, fun h => (h rfl).elim⟩
   exact OpOk.c0 hb (hk0.out X)
  ·refine .inl ⟨true, hf.2.2.1, fun _ => ?_, fun h => (h rfl).elim⟩
   exact OpOk.run (v := .bool false) (W' := X) (by
    unfold execOp
    simp only [fX ev 44 hf.1, fX ev 45 hf.2.1, Sem.run_bind, run_eqGuard_agg X _ _ _ _ _ _ HgdN.out, run_eql_struct, HE2b.out X, Result.andThen_ok]
    rfl) ⟨rfl, Stay.refl _⟩
  ·refine .inl ⟨false, hf.2.2.1, fun _ => ?_, fun h => (h rfl).elim⟩
   exact OpOk.s2 (fX ev 43 hf.1) (fX ev 46 hf.2.1) hb
  ·exact OpOk.s2 (fX ev 41 hf.1) (fX ev 47 hf.2.1) hb
  intro w13 hX
  iterate 13 rintro _ rfl
  obtain ⟨H13, S13⟩ := nx H12.out S12.out hX
  clear hX H12 S12
  go_wp2
  refine Rest.done ?_
  have hc9 := (cell_of_row w13 p9 0 Xe _ _ (on_blk_mul H13.out)).trans Hx0.out
  have hr2 := Hr2.out
  refine (Decidable.em (x % 2 = 1)).elim (fun hb => ?_) (fun hb => ?_)
  ·skip
   as_aux_lemma =>
   have hb0 := hb
   have HF2 := hide (show decW n = .tuple #[.agg Rp, .bool true] by rw [HF.out, ← HRp.out]; unfold Ed.turnD; rw [decide_eq_true hb, if_pos (by decide)])
   rw [hb0] at hr2
   clear hb hb0
   have glXe := on_blk_mul H13.out
   have glYe := on_blk_mul H13.out.right.right.right.right
   have glOn := on_blk_mul H13.out.right.right.right
   have gR := on_blk_mul H13.out.right.right.right.right.right
   have HB := hide (all_below H13.out.right.right.right.right.right.right.right S13.out)
   go_wp2_with (first
    | (refine wS gR HsRp HzRp HoRp ?_)
    | (refine wL glXe hun HsXe ?_)
    | (refine wL glYe hun HsYe ?_)
    | (refine wL glOn hun HsOn ?_)
    | (refine b3_arm rfl 58 0 1 2 _ _ _ rfl Xe Ye On Rp rfl rfl rfl (Hb1.out _) ?_))
   exact retT Tryz.results42 gR hum HsRp.out rfl (.bool true) (by rw [HF2.out]) HB.out (by omega)
  skip
  as_aux_lemma =>
  have hb0 : x % 2 = 0 := by omega
  have HF2 := hide (show decW n = .tuple #[.agg Rn, .bool true] by rw [HF.out, ← HRn.out]; unfold Ed.turnD; rw [decide_eq_false hb, if_neg (by decide)])
  rw [hb0] at hr2
  clear hb hb0
  have gX := on_blk_mul H13.out
  go_wp2_with (first
   | (refine wL gX hun HsXe ?_))
  clear gX
  refine (hk12.out _).mono ?_
  rintro e w14 ⟨rfl, hB⟩
  obtain ⟨H14, S14⟩ := nx H13.out S13.out hB
  clear hB H13 S13
  have H15 := hide (st0 H14.out (cs := Ne))
  have S15 := hide (S14.out.setRow (p9) Ne)
  have gW := on_blk_mul H14.out
  have glNe := on_blk_mul H15.out
  have glYe := on_blk_mul H15.out.right.right.right.right
  have glOn := on_blk_mul H15.out.right.right.right
  have gR := on_blk_mul H15.out.right.right.right.right.right
  have HB := hide (all_below H15.out.right.right.right.right.right.right.right S15.out)
  go_wp2_with (first
   | (refine wS gR HsRn HzRn HoRn ?_)
   | (refine wS gW HsNe.out (HzXe.out.symm.trans HzNe.out) HoNe.out ?_)
   | (refine wL glNe hun HsNe ?_)
   | (refine wL glYe hun HsYe ?_)
   | (refine wL glOn hun HsOn ?_)
   | (refine b3_arm rfl 58 0 1 2 _ _ _ rfl Ne Ye On Rn rfl rfl rfl (Hb2.out _) ?_))
  exact retT Tryz.results42 gR hum HsRn.out rfl (.bool true) (by rw [HF2.out]) HB.out (by omega)
 skip
 as_aux_lemma =>
 have HF := hide (HOk.out hr (fun h => nomatch h.1))
 clear hr
 refine rG (iv [.agg Xe, .agg Xe, .agg XX, .agg Aa, .bool false, .bool false, .bool false, .bool false, undef, undef, undef, .bool false, .bool false]) ?t30 ?r30
 case' t30 => refine ⟨?_, ?_, ?_, ?_, ?_, ?_, ?_, ?_, ?_, ?_, ?_, ?_, ?_, trivial⟩ <;> intro ev X hT hb hk hf
 ·exact OpOk.l (x := .tmp 9) hk.1 (on_blk_mul (H12.out.below hT)) hun HsXe.out
 ·exact OpOk.l (x := .tmp 9) hk.1 (on_blk_mul (H12.out.below hT)) hun HsXe.out
 ·exact OpOk.c2 (fX ev 36 hf.1) (fX ev 37 hf.2.1) hb (hk11.out X)
 ·exact OpOk.l (x := .tmp 8) hk.1 (on_blk_mul (H12.out.below hT).right) hun HsAa.out
 ·exact OpOk.run (v := .bool false) (W' := X) (by
   unfold execOp
   simp only [fX ev 38 hf.1, fX ev 39 hf.2.1, Sem.run_bind, run_eqGuard_agg X _ _ _ _ _ _ HgdN.out, run_neq_struct, HE1b.out X, Result.andThen_ok]
   rfl) ⟨rfl, Stay.refl _⟩
 ·exact OpOk.m rfl hf.1
 ·refine .inl ⟨false, hf.1, fun _ => ?_, fun h => (h rfl).elim⟩
  exact OpOk.m rfl (fV ev 5 (.bool false) hk.1)
 ·refine .inl ⟨false, hf.2.1, fun _ => ?_, fun h => (h rfl).elim⟩
  exact OpOk.m rfl (fX ev 42 hf.1)
 ·exact .inl ⟨false, hf.1, fun h => (nomatch h), fun _ => rfl⟩
 ·exact .inl ⟨false, hf.1, fun h => (nomatch h), fun _ => rfl⟩
 ·exact .inl ⟨false, hf.2.2.1, fun h => (nomatch h), fun _ => rfl⟩
 ·refine .inl ⟨false, hf.2.2.1, fun _ => ?_, fun h => (h rfl).elim⟩
  exact OpOk.s2 (fX ev 43 hf.1) (fX ev 46 hf.2.1) hb
 ·exact OpOk.s2 (fX ev 41 hf.1) (fX ev 47 hf.2.1) hb
 intro w13 hX
 iterate 13 rintro _ rfl
 obtain ⟨H13, S13⟩ := nx H12.out S12.out hX
 clear hX H12 S12
 go_wp2
 refine Rest.done ?_
 have hc9 := (cell_of_row w13 p9 0 Xe _ _ (on_blk_mul H13.out)).trans Hx0.out
 have hr2 := Hr2.out
 refine (Decidable.em (x % 2 = 1)).elim (fun hb => ?_) (fun hb => ?_)
 ·skip
  as_aux_lemma =>
  have hb0 := hb
  have HF2 := hide (show decW n = .tuple #[.agg Rn, .bool true] by rw [HF.out, ← HRn.out]; unfold Ed.turnD; rw [decide_eq_true hb, if_neg (by decide)])
  rw [hb0] at hr2
  clear hb hb0
  have gX := on_blk_mul H13.out
  go_wp2_with (first
   | (refine wL gX hun HsXe ?_))
  clear gX
  refine (hk12.out _).mono ?_
  rintro e w14 ⟨rfl, hB⟩
  obtain ⟨H14, S14⟩ := nx H13.out S13.out hB
  clear hB H13 S13
  have H15 := hide (st0 H14.out (cs := Ne))
  have S15 := hide (S14.out.setRow (p9) Ne)
  have gW := on_blk_mul H14.out
  have glNe := on_blk_mul H15.out
  have glYe := on_blk_mul H15.out.right.right.right.right
  have glOn := on_blk_mul H15.out.right.right.right
  have gR := on_blk_mul H15.out.right.right.right.right.right
  have HB := hide (all_below H15.out.right.right.right.right.right.right.right S15.out)
  go_wp2_with (first
   | (refine wS gR HsRn HzRn HoRn ?_)
   | (refine wS gW HsNe.out (HzXe.out.symm.trans HzNe.out) HoNe.out ?_)
   | (refine wL glNe hun HsNe ?_)
   | (refine wL glYe hun HsYe ?_)
   | (refine wL glOn hun HsOn ?_)
   | (refine b3_arm rfl 58 0 1 2 _ _ _ rfl Ne Ye On Rn rfl rfl rfl (Hb2.out _) ?_))
  exact retT Tryz.results42 gR hum HsRn.out rfl (.bool true) (by rw [HF2.out]) HB.out (by omega)
 skip
 as_aux_lemma =>
 have hb0 : x % 2 = 0 := by omega
 have HF2 := hide (show decW n = .tuple #[.agg Rp, .bool true] by rw [HF.out, ← HRp.out]; unfold Ed.turnD; rw [decide_eq_false hb, if_pos (by decide)])
 rw [hb0] at hr2
 clear hb hb0
 have glXe := on_blk_mul H13.out
 have glYe := on_blk_mul H13.out.right.right.right.right
 have glOn := on_blk_mul H13.out.right.right.right
 have gR := on_blk_mul H13.out.right.right.right.right.right
 have HB := hide (all_below H13.out.right.right.right.right.right.right.right S13.out)
 go_wp2_with (first
  | (refine wS gR HsRp HzRp HoRp ?_)
  | (refine wL glXe hun HsXe ?_)
  | (refine wL glYe hun HsYe ?_)
  | (refine wL glOn hun HsOn ?_)
  | (refine b3_arm rfl 58 0 1 2 _ _ _ rfl Xe Ye On Rp rfl rfl rfl (Hb1.out _) ?_))
 exact retT Tryz.results42 gR hum HsRp.out rfl (.bool true) (by rw [HF2.out]) HB.out (by omega)
end Cv
end Go.Proofs.YtjdebgbiockafaaGreatDoor
