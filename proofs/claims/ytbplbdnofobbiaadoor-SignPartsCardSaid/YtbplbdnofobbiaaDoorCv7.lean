/- curve: the sum of two spread points. -/
import Derived.Test.YtbplbdnofobbiaaDoorGCv1
import Derived.Test.YtbplbdnofobbiaaDoorGBase
set_option linter.unusedVariables false
set_option linter.unusedSimpArgs false
set_option maxRecDepth 100000
set_option maxHeartbeats 8000000
namespace Go.Proofs.YtbplbdnofobbiaaDoor
namespace Cv
open Fe
open Go.ChangeShapes Go.WideShapes Go.ChangeAt Go.RowKit
theorem bv_blk4 {v1 v2 v3 v4 : Value} {o1 o2 o3 o4 : Obj} {F : SP} {w : World} (h : (Multi2.bv v1 o1 * (Multi2.bv v2 o2 * (Multi2.bv v3 o3 * (Multi2.bv v4 o4 * F)))).on w) :
  ∃ g1 g2 g3 g4, v1 = .pointer (some ⟨g1, 0, .none⟩) ∧ v2 = .pointer (some ⟨g2, 0, .none⟩) ∧ v3 = .pointer (some ⟨g3, 0, .none⟩) ∧ v4 = .pointer (some ⟨g4, 0, .none⟩) ∧ (blk g1 o1 * (blk g2 o2 * (blk g3 o3 * (blk g4 o4 * F)))).on w := by
 obtain ⟨g1, e1, h⟩ := Multi2.bv_blk h
 rw [show blk g1 o1 * (Multi2.bv v2 o2 * (Multi2.bv v3 o3 * (Multi2.bv v4 o4 * F))) = Multi2.bv v2 o2 * (Multi2.bv v3 o3 * (Multi2.bv v4 o4 * (blk g1 o1 * F))) by ac_rfl] at h
 obtain ⟨g2, e2, h⟩ := Multi2.bv_blk h
 rw [show blk g2 o2 * (Multi2.bv v3 o3 * (Multi2.bv v4 o4 * (blk g1 o1 * F))) = Multi2.bv v3 o3 * (Multi2.bv v4 o4 * (blk g1 o1 * (blk g2 o2 * F))) by ac_rfl] at h
 obtain ⟨g3, e3, h⟩ := Multi2.bv_blk h
 rw [show blk g3 o3 * (Multi2.bv v4 o4 * (blk g1 o1 * (blk g2 o2 * F))) = Multi2.bv v4 o4 * (blk g1 o1 * (blk g2 o2 * (blk g3 o3 * F))) by ac_rfl] at h
 obtain ⟨g4, e4, h⟩ := Multi2.bv_blk h
 exact ⟨g1, g2, g3, g4, e1, e2, e3, e4, by
  rw [show blk g1 o1 * (blk g2 o2 * (blk g3 o3 * (blk g4 o4 * F))) = blk g4 o4 * (blk g1 o1 * (blk g2 o2 * (blk g3 o3 * F))) by ac_rfl]; exact h⟩
theorem star_4_1 (P Q T U R : SP) : P * (Q * (T * (U * R))) = Q * (P * (T * (U * R))) := by ac_rfl
theorem star_4_2 (P Q T U R : SP) : P * (Q * (T * (U * R))) = T * (P * (Q * (U * R))) := by ac_rfl
theorem star_4_3 (P Q T U R : SP) : P * (Q * (T * (U * R))) = U * (P * (Q * (T * R))) := by ac_rfl
theorem mul_three (u v z : Nat) (hu : u < P5) (hv : v < P5) (hz : z < P5) (vv : Value) (X : World) (h1 : IsEl X vv [u, v, z]) (h2 : Tab5 X) : Calls Tryd.prog 73 #[vv] X fun e w' => e = .returned (.agg (q4 (u * v % P5 * z % P5))) ∧ Below X.heap.size X w' := by
 have := mul_any vv [u, v, z] (by simp only [List.mem_cons, List.not_mem_nil, or_false]; rintro t (rfl | rfl | rfl) <;> assumption) (show 3 < 1000 by decide) X h1 h2
 rwa [show mulP [u, v, z] = u * v % P5 * z % P5 from rfl] at this
def spC (s : Ed.Sp) : Array Value := sC s.x.val s.y.val s.z.val s.t.val
theorem plus_nat (px py pz pt qx qy qz qt : Nat) (bpx : px < P5) (bpy : py < P5) (bpz : pz < P5) (bpt : pt < P5) (bqx : qx < P5) (bqy : qy < P5) (bqz : qz < P5) (bqt : qt < P5) (w : World) (hT : TabC w) :
  Calls Tryd.prog 38 #[.agg (sC px py pz pt), .agg (sC qx qy qz qt)] w fun e w' => e = .returned (.agg (sC (Ed.nAdd (px, py, pz, pt) (qx, qy, qz, qt)).1 (Ed.nAdd (px, py, pz, pt) (qx, qy, qz, qt)).2.1 (Ed.nAdd (px, py, pz, pt) (qx, qy, qz, qt)).2.2.1 (Ed.nAdd (px, py, pz, pt) (qx, qy, qz, qt)).2.2.2)) ∧ Below w.heap.size w w' := by
 unfold Ed.nAdd Ed.nMix Ed.nEnd
 dsimp only
 have hus := Tryd.underlying73
 have hu := Tryd.underlying25
 have hzS := sZero
 have hzE := eZero
 have h0 := (((on_all w).alloc (.cells (sC px py pz pt) 73)).alloc (.cells (sC qx qy qz qt) 73)).alloc (.cells (sC 0 0 0 0) 73)
 have s0 := (((Str.refl w).alloc (.cells (sC px py pz pt) 73)).alloc (.cells (sC qx qy qz qt) 73)).alloc (.cells (sC 0 0 0 0) 73)
 try simp only [World.size_alloc] at h0
 have H1 := hide h0
 have S1 := hide s0
 clear h0 s0
 have bd2 : (Ed.dN + Ed.dN) % P5 < P5 := Nat.mod_lt _ P5_pos
 have hdd := fun X (h : TabC X) => h.dd.part
 generalize (Ed.dN + Ed.dN) % P5 = d2 at *
 have Hdd := hide hdd
 clear hdd
 have s1 := fun X h => sub_any py px bpy bpx X h
 have bu1 : (py + (P5 - px)) % P5 < P5 := Nat.mod_lt _ P5_pos
 generalize heu1 : (py + (P5 - px)) % P5 = u1 at *
 have Heu1 := hide heu1
 clear heu1
 have hs1 := hide s1
 clear s1
 have s2 := fun X h => sub_any qy qx bqy bqx X h
 have bu2 : (qy + (P5 - qx)) % P5 < P5 := Nat.mod_lt _ P5_pos
 generalize heu2 : (qy + (P5 - qx)) % P5 = u2 at *
 have Heu2 := hide heu2
 clear heu2
 have hs2 := hide s2
 clear s2
 have m1 := mul_two u1 u2 bu1 bu2
 have ba : u1 * u2 % P5 < P5 := Nat.mod_lt _ P5_pos
 generalize hea : u1 * u2 % P5 = a at *
 have Hea := hide hea
 clear hea
 have hm1 := hide m1
 clear m1
 have a1 := add_two py px bpy bpx
 have bu3 : (py + px) % P5 < P5 := Nat.mod_lt _ P5_pos
 generalize heu3 : (py + px) % P5 = u3 at *
 have Heu3 := hide heu3
 clear heu3
 have ha1 := hide a1
 clear a1
 have a2 := add_two qy qx bqy bqx
 have bu4 : (qy + qx) % P5 < P5 := Nat.mod_lt _ P5_pos
 generalize heu4 : (qy + qx) % P5 = u4 at *
 have Heu4 := hide heu4
 clear heu4
 have ha2 := hide a2
 clear a2
 have m2 := mul_two u3 u4 bu3 bu4
 have bb : u3 * u4 % P5 < P5 := Nat.mod_lt _ P5_pos
 generalize heb : u3 * u4 % P5 = b at *
 have Heb := hide heb
 clear heb
 have hm2 := hide m2
 clear m2
 have m3 := mul_three pt d2 qt bpt bd2 bqt
 have bc : pt * d2 % P5 * qt % P5 < P5 := Nat.mod_lt _ P5_pos
 generalize hec : pt * d2 % P5 * qt % P5 = c at *
 have Hec := hide hec
 clear hec
 have hm3 := hide m3
 clear m3
 have m4 := mul_two pz qz bpz bqz
 have bz0 : pz * qz % P5 < P5 := Nat.mod_lt _ P5_pos
 generalize hez0 : pz * qz % P5 = z0 at *
 have Hez0 := hide hez0
 clear hez0
 have hm4 := hide m4
 clear m4
 have a3 := add_two z0 z0 bz0 bz0
 have bzz : (z0 + z0) % P5 < P5 := Nat.mod_lt _ P5_pos
 generalize hezz : (z0 + z0) % P5 = zz at *
 have Hezz := hide hezz
 clear hezz
 have ha3 := hide a3
 clear a3
 have s3 := fun X h => sub_any b a bb ba X h
 have be : (b + (P5 - a)) % P5 < P5 := Nat.mod_lt _ P5_pos
 generalize hee : (b + (P5 - a)) % P5 = e at *
 have Hee := hide hee
 clear hee
 have hs3 := hide s3
 clear s3
 have s4 := fun X h => sub_any zz c bzz bc X h
 have bf : (zz + (P5 - c)) % P5 < P5 := Nat.mod_lt _ P5_pos
 generalize hef : (zz + (P5 - c)) % P5 = f at *
 have Hef := hide hef
 clear hef
 have hs4 := hide s4
 clear s4
 have a4 := add_two zz c bzz bc
 have bg : (zz + c) % P5 < P5 := Nat.mod_lt _ P5_pos
 generalize heg : (zz + c) % P5 = g at *
 have Heg := hide heg
 clear heg
 have ha4 := hide a4
 clear a4
 have a5 := add_two b a bb ba
 have bh : (b + a) % P5 < P5 := Nat.mod_lt _ P5_pos
 generalize heh : (b + a) % P5 = h at *
 have Heh := hide heh
 clear heh
 have ha5 := hide a5
 clear a5
 have m5 := mul_two e f be bf
 have brx : e * f % P5 < P5 := Nat.mod_lt _ P5_pos
 generalize herx : e * f % P5 = rx at *
 have Herx := hide herx
 clear herx
 have hm5 := hide m5
 clear m5
 have m6 := mul_two g h bg bh
 have bry : g * h % P5 < P5 := Nat.mod_lt _ P5_pos
 generalize hery : g * h % P5 = ry at *
 have Hery := hide hery
 clear hery
 have hm6 := hide m6
 clear m6
 have m7 := mul_two f g bf bg
 have brz : f * g % P5 < P5 := Nat.mod_lt _ P5_pos
 generalize herz : f * g % P5 = rz at *
 have Herz := hide herz
 clear herz
 have hm7 := hide m7
 clear m7
 have m8 := mul_two e h be bh
 have brt : e * h % P5 < P5 := Nat.mod_lt _ P5_pos
 generalize hert : e * h % P5 = rt at *
 have Hert := hide hert
 clear hert
 have hm8 := hide m8
 clear m8
 have hbs2 := hide run_bs2
 have hbs3 := hide run_bs3
 have hbsp := hide (fun X => run_bsp rx ry rz rt X)
 have hTab := hide hT
 have Hbs2 : Hid (∀ (u v : Nat) X, (Instr.buildSlice 130 2 #[(0, .agg (q4 u)), (1, .agg (q4 v))]).run Tryd.prog X = .ok (.slice (some ⟨X.heap.size, 0, .none⟩) 2 2) (X.alloc (.cells #[lv (limb u 0), lv (limb u 1), lv (limb u 2), lv (limb u 3), lv (limb v 0), lv (limb v 1), lv (limb v 2), lv (limb v 3)] 25))) := hide run_bs2
 have hb_u1_u2 := hide (fun X => Hbs2.out u1 u2 X)
 have hb_py_px := hide (fun X => Hbs2.out py px X)
 have hb_qy_qx := hide (fun X => Hbs2.out qy qx X)
 have hb_u3_u4 := hide (fun X => Hbs2.out u3 u4 X)
 have hb_pz_qz := hide (fun X => Hbs2.out pz qz X)
 have hb_z0_z0 := hide (fun X => Hbs2.out z0 z0 X)
 have hb_zz_c := hide (fun X => Hbs2.out zz c X)
 have hb_b_a := hide (fun X => Hbs2.out b a X)
 have hb_e_f := hide (fun X => Hbs2.out e f X)
 have hb_g_h := hide (fun X => Hbs2.out g h X)
 have hb_f_g := hide (fun X => Hbs2.out f g X)
 have hb_e_h := hide (fun X => Hbs2.out e h X)
 have hb_c3 := hide (fun X => run_bs3 pt d2 qt X)
 obtain ⟨HsPP, HoPP, HzPP⟩ := b3 (sInfo px py pz pt) (sC_one px py pz pt) (sSize 0 0 0 0 px py pz pt)
 have HpPP_0 := hide (sC_x px py pz pt)
 have HpPP_4 := hide (sC_y px py pz pt)
 have HpPP_8 := hide (sC_z px py pz pt)
 have HpPP_12 := hide (sC_t px py pz pt)
 obtain ⟨HsQQ, HoQQ, HzQQ⟩ := b3 (sInfo qx qy qz qt) (sC_one qx qy qz qt) (sSize 0 0 0 0 qx qy qz qt)
 have HpQQ_0 := hide (sC_x qx qy qz qt)
 have HpQQ_4 := hide (sC_y qx qy qz qt)
 have HpQQ_8 := hide (sC_z qx qy qz qt)
 have HpQQ_12 := hide (sC_t qx qy qz qt)
 obtain ⟨HsRR, HoRR, HzRR⟩ := b3 (sInfo rx ry rz rt) (sC_one rx ry rz rt) (sSize 0 0 0 0 rx ry rz rt)
 obtain ⟨HsPX, HoPX, HzPX⟩ := eF px
 obtain ⟨HsPY, HoPY, HzPY⟩ := eF py
 obtain ⟨HsPZ, HoPZ, HzPZ⟩ := eF pz
 obtain ⟨HsPT, HoPT, HzPT⟩ := eF pt
 obtain ⟨HsQX, HoQX, HzQX⟩ := eF qx
 obtain ⟨HsQY, HoQY, HzQY⟩ := eF qy
 obtain ⟨HsQZ, HoQZ, HzQZ⟩ := eF qz
 obtain ⟨HsQT, HoQT, HzQT⟩ := eF qt
 obtain ⟨HsU1, HoU1, HzU1⟩ := eF u1
 obtain ⟨HsU2, HoU2, HzU2⟩ := eF u2
 obtain ⟨HsU3, HoU3, HzU3⟩ := eF u3
 obtain ⟨HsU4, HoU4, HzU4⟩ := eF u4
 obtain ⟨HsAa, HoAa, HzAa⟩ := eF a
 obtain ⟨HsBb, HoBb, HzBb⟩ := eF b
 obtain ⟨HsCc, HoCc, HzCc⟩ := eF c
 obtain ⟨HsZ0, HoZ0, HzZ0⟩ := eF z0
 obtain ⟨HsZz, HoZz, HzZz⟩ := eF zz
 obtain ⟨HsEe, HoEe, HzEe⟩ := eF e
 obtain ⟨HsFf, HoFf, HzFf⟩ := eF f
 obtain ⟨HsGg, HoGg, HzGg⟩ := eF g
 obtain ⟨HsHh, HoHh, HzHh⟩ := eF h
 obtain ⟨HsD2, HoD2, HzD2⟩ := eF d2
 obtain ⟨HsRX, HoRX, HzRX⟩ := eF rx
 obtain ⟨HsRY, HoRY, HzRY⟩ := eF ry
 obtain ⟨HsRZ, HoRZ, HzRZ⟩ := eF rz
 obtain ⟨HsRT, HoRT, HzRT⟩ := eF rt
 clear hbs2 hbs3 Hbs2 bpx bpy bpz bpt bqx bqy bqz bqt bd2 bu1 bu2 ba bu3 bu4 bb bc bz0 bzz be bf bg bh brx bry brz brt
 generalize sC px py pz pt = PP at *
 generalize sC qx qy qz qt = QQ at *
 generalize sC rx ry rz rt = RR at *
 generalize q4 px = PX at *
 generalize q4 py = PY at *
 generalize q4 pz = PZ at *
 generalize q4 pt = PT at *
 generalize q4 qx = QX at *
 generalize q4 qy = QY at *
 generalize q4 qz = QZ at *
 generalize q4 qt = QT at *
 generalize q4 u1 = U1 at *
 generalize q4 u2 = U2 at *
 generalize q4 u3 = U3 at *
 generalize q4 u4 = U4 at *
 generalize q4 a = Aa at *
 generalize q4 b = Bb at *
 generalize q4 c = Cc at *
 generalize q4 z0 = Z0 at *
 generalize q4 zz = Zz at *
 generalize q4 e = Ee at *
 generalize q4 f = Ff at *
 generalize q4 g = Gg at *
 generalize q4 h = Hh at *
 generalize q4 d2 = D2 at *
 generalize q4 rx = RX at *
 generalize q4 ry = RY at *
 generalize q4 rz = RZ at *
 generalize q4 rt = RT at *
 generalize sC 0 0 0 0 = Zs at *
 generalize q4 0 = Z4 at *
 go_enter Tryd.func38, Tryd.ntmps38
 refine wp_seq_h fun K1 hK1 => ?_
 go_wp2_with fail
 refine hK1.out _ _ ?_
 clear hK1 K1
 generalize ((w.alloc (.cells PP 73)).alloc (.cells QQ 73)).alloc (.cells Zs 73) = w1 at *
 refine wp_seq_h fun K2 hK2 => ?_
 have hT0 := hide (hTab.out.below (all_below H1.out.right.right.right S1.out))
 refine wp_tail 13 [isV (.pointer (some ⟨w.heap.size, 4, .none⟩)), isV (.agg PY), isV (.pointer (some ⟨w.heap.size, 0, .none⟩)), isV (.agg PX), isV (.agg U1), isV (.pointer (some ⟨w.heap.size + 1, 4, .none⟩)), isV (.agg QY), isV (.pointer (some ⟨w.heap.size + 1, 0, .none⟩)), isV (.agg QX), isV (.agg U2), fun v X => IsEl X v [u1, u2], isV (.agg Aa), Fresh w1.heap.size (.cells Z4 25 (0, 0))] ?keep ?todo ?r35
 case keep => exact ⟨Keep.isV _, Keep.isV _, Keep.isV _, Keep.isV _, Keep.isV _, Keep.isV _, Keep.isV _, Keep.isV _, Keep.isV _, Keep.isV _, fun _ _ _ h k => IsEl.below h k, Keep.isV _, Fresh.keep, trivial⟩
 case todo =>
  refine ⟨?_, ?_, ?_, ?_, ?_, ?_, ?_, ?_, ?_, ?_, ?_, ?_, ?_, trivial⟩
  ·intro ev X hT hb hk hf
   have e0 : ev (.tmp 2) = .pointer (some ⟨w.heap.size, 0, .none⟩) := hk.1
   exact OpOk.r (by simp [execOp, e0, go_sem])
  ·intro ev X hT hb hk hf
   have e0 : ev (.tmp 13) = _ := hf.1
   exact OpOk.lp e0 (rowPart (on_blk_mul (H1.out.below hT).right.right) HpPP_4.out) hu HsPY.out
  ·intro ev X hT hb hk hf
   have e0 : ev (.tmp 2) = .pointer (some ⟨w.heap.size, 0, .none⟩) := hk.1
   exact OpOk.r (by simp [execOp, e0, go_sem])
  ·intro ev X hT hb hk hf
   have e0 : ev (.tmp 15) = _ := hf.1
   exact OpOk.lp e0 (rowPart (on_blk_mul (H1.out.below hT).right.right) HpPP_0.out) hu HsPX.out
  ·intro ev X hT hb hk hf
   have e0 : ev (.tmp 14) = _ := hf.1
   have e1 : ev (.tmp 16) = _ := hf.2.1
   exact OpOk.c (by simp [execOp, resolve, invoke, e0, e1, hb.1, hb.2.1, go_sem]) (hs1.out X (hT0.out.below hT).f)
  ·intro ev X hT hb hk hf
   have e0 : ev (.tmp 3) = .pointer (some ⟨w.heap.size + 1, 0, .none⟩) := hk.1
   exact OpOk.r (by simp [execOp, e0, go_sem])
  ·intro ev X hT hb hk hf
   have e0 : ev (.tmp 18) = _ := hf.1
   exact OpOk.lp e0 (rowPart (on_blk_mul (H1.out.below hT).right) HpQQ_4.out) hu HsQY.out
  ·intro ev X hT hb hk hf
   have e0 : ev (.tmp 3) = .pointer (some ⟨w.heap.size + 1, 0, .none⟩) := hk.1
   exact OpOk.r (by simp [execOp, e0, go_sem])
  ·intro ev X hT hb hk hf
   have e0 : ev (.tmp 20) = _ := hf.1
   exact OpOk.lp e0 (rowPart (on_blk_mul (H1.out.below hT).right) HpQQ_0.out) hu HsQX.out
  ·intro ev X hT hb hk hf
   have e0 : ev (.tmp 19) = _ := hf.1
   have e1 : ev (.tmp 21) = _ := hf.2.1
   exact OpOk.c (by simp [execOp, resolve, invoke, e0, e1, hb.1, hb.2.1, go_sem]) (hs2.out X (hT0.out.below hT).f)
  ·intro ev X hT hb hk hf
   have e0 : ev (.tmp 17) = _ := hf.1
   have e1 : ev (.tmp 22) = _ := hf.2.1
   exact OpOk.run (v := .slice (some ⟨X.heap.size, 0, .none⟩) 2 2) (W' := X.alloc (.cells #[lv (limb u1 0), lv (limb u1 1), lv (limb u1 2), lv (limb u1 3), lv (limb u2 0), lv (limb u2 1), lv (limb u2 2), lv (limb u2 3)] 25)) (by simp [execOp, e0, e1, hb_u1_u2.out X]) ⟨IsEl.two (heap_alloc_new X _), (Below.refl X.heap.size X).alloc (Nat.le_refl _) _⟩
  ·intro ev X hT hb hk hf
   have e0 : IsEl X (ev (.tmp 23)) [u1, u2] := hf.1
   exact OpOk.c (by simp [execOp, resolve, invoke, hb.1, hb.2.1, go_sem]) (hm1.out _ X e0 (hT0.out.below hT).f)
  ·intro ev X hT hb hk hf
   exact OpOk.al hT.size (by simp [execOp, hzE, go_sem])
 intro w2 hX
 rintro _ rfl _ rfl _ rfl _ rfl _ rfl _ rfl _ rfl _ rfl _ rfl _ rfl _ - _ rfl _ ⟨g5, rfl, hgg5, hcg5⟩
 have H2 := hide (on_fresh H1.out hX hgg5 hcg5)
 have S2 := hide (S1.out.trans (Str.below hX))
 clear hX H1 S1 hgg5 hcg5
 clear hT0
 go_wp2
 refine Rest.done ?_
 have H3 := hide (st0 H2.out (cs := Aa))
 have S3 := hide (S2.out.setRow (g5) Aa)
 have gW := on_blk_mul H2.out
 go_wp2_with (first
  | (refine wS gW HsAa HzAa HoAa ?_))
 refine hK2.out _ _ ?_
 clear hK2 K2
 generalize w2.setRow (g5) Aa = w3 at *
 clear gW H2 S2
 refine wp_seq_h fun K3 hK3 => ?_
 have hT0 := hide (hTab.out.below (all_below H3.out.right.right.right.right S3.out))
 refine wp_tail 15 [isV (.pointer (some ⟨w.heap.size, 4, .none⟩)), isV (.agg PY), isV (.pointer (some ⟨w.heap.size, 0, .none⟩)), isV (.agg PX), fun v X => IsEl X v [py, px], isV (.agg U3), isV (.pointer (some ⟨w.heap.size + 1, 4, .none⟩)), isV (.agg QY), isV (.pointer (some ⟨w.heap.size + 1, 0, .none⟩)), isV (.agg QX), fun v X => IsEl X v [qy, qx], isV (.agg U4), fun v X => IsEl X v [u3, u4], isV (.agg Bb), Fresh w3.heap.size (.cells Z4 25 (0, 0))] ?keep ?todo ?r36
 case keep => exact ⟨Keep.isV _, Keep.isV _, Keep.isV _, Keep.isV _, fun _ _ _ h k => IsEl.below h k, Keep.isV _, Keep.isV _, Keep.isV _, Keep.isV _, Keep.isV _, fun _ _ _ h k => IsEl.below h k, Keep.isV _, fun _ _ _ h k => IsEl.below h k, Keep.isV _, Fresh.keep, trivial⟩
 case todo =>
  refine ⟨?_, ?_, ?_, ?_, ?_, ?_, ?_, ?_, ?_, ?_, ?_, ?_, ?_, ?_, ?_, trivial⟩
  ·intro ev X hT hb hk hf
   have e0 : ev (.tmp 2) = .pointer (some ⟨w.heap.size, 0, .none⟩) := hk.1
   exact OpOk.r (by simp [execOp, e0, go_sem])
  ·intro ev X hT hb hk hf
   have e0 : ev (.tmp 25) = _ := hf.1
   exact OpOk.lp e0 (rowPart (on_blk_mul (H3.out.below hT).right.right.right) HpPP_4.out) hu HsPY.out
  ·intro ev X hT hb hk hf
   have e0 : ev (.tmp 2) = .pointer (some ⟨w.heap.size, 0, .none⟩) := hk.1
   exact OpOk.r (by simp [execOp, e0, go_sem])
  ·intro ev X hT hb hk hf
   have e0 : ev (.tmp 27) = _ := hf.1
   exact OpOk.lp e0 (rowPart (on_blk_mul (H3.out.below hT).right.right.right) HpPP_0.out) hu HsPX.out
  ·intro ev X hT hb hk hf
   have e0 : ev (.tmp 26) = _ := hf.1
   have e1 : ev (.tmp 28) = _ := hf.2.1
   exact OpOk.run (v := .slice (some ⟨X.heap.size, 0, .none⟩) 2 2) (W' := X.alloc (.cells #[lv (limb py 0), lv (limb py 1), lv (limb py 2), lv (limb py 3), lv (limb px 0), lv (limb px 1), lv (limb px 2), lv (limb px 3)] 25)) (by simp [execOp, e0, e1, hb_py_px.out X]) ⟨IsEl.two (heap_alloc_new X _), (Below.refl X.heap.size X).alloc (Nat.le_refl _) _⟩
  ·intro ev X hT hb hk hf
   have e0 : IsEl X (ev (.tmp 29)) [py, px] := hf.1
   exact OpOk.c (by simp [execOp, resolve, invoke, hb.1, hb.2.1, go_sem]) (ha1.out _ X e0 (hT0.out.below hT).f)
  ·intro ev X hT hb hk hf
   have e0 : ev (.tmp 3) = .pointer (some ⟨w.heap.size + 1, 0, .none⟩) := hk.1
   exact OpOk.r (by simp [execOp, e0, go_sem])
  ·intro ev X hT hb hk hf
   have e0 : ev (.tmp 31) = _ := hf.1
   exact OpOk.lp e0 (rowPart (on_blk_mul (H3.out.below hT).right.right) HpQQ_4.out) hu HsQY.out
  ·intro ev X hT hb hk hf
   have e0 : ev (.tmp 3) = .pointer (some ⟨w.heap.size + 1, 0, .none⟩) := hk.1
   exact OpOk.r (by simp [execOp, e0, go_sem])
  ·intro ev X hT hb hk hf
   have e0 : ev (.tmp 33) = _ := hf.1
   exact OpOk.lp e0 (rowPart (on_blk_mul (H3.out.below hT).right.right) HpQQ_0.out) hu HsQX.out
  ·intro ev X hT hb hk hf
   have e0 : ev (.tmp 32) = _ := hf.1
   have e1 : ev (.tmp 34) = _ := hf.2.1
   exact OpOk.run (v := .slice (some ⟨X.heap.size, 0, .none⟩) 2 2) (W' := X.alloc (.cells #[lv (limb qy 0), lv (limb qy 1), lv (limb qy 2), lv (limb qy 3), lv (limb qx 0), lv (limb qx 1), lv (limb qx 2), lv (limb qx 3)] 25)) (by simp [execOp, e0, e1, hb_qy_qx.out X]) ⟨IsEl.two (heap_alloc_new X _), (Below.refl X.heap.size X).alloc (Nat.le_refl _) _⟩
  ·intro ev X hT hb hk hf
   have e0 : IsEl X (ev (.tmp 35)) [qy, qx] := hf.1
   exact OpOk.c (by simp [execOp, resolve, invoke, hb.1, hb.2.1, go_sem]) (ha2.out _ X e0 (hT0.out.below hT).f)
  ·intro ev X hT hb hk hf
   have e0 : ev (.tmp 30) = _ := hf.1
   have e1 : ev (.tmp 36) = _ := hf.2.1
   exact OpOk.run (v := .slice (some ⟨X.heap.size, 0, .none⟩) 2 2) (W' := X.alloc (.cells #[lv (limb u3 0), lv (limb u3 1), lv (limb u3 2), lv (limb u3 3), lv (limb u4 0), lv (limb u4 1), lv (limb u4 2), lv (limb u4 3)] 25)) (by simp [execOp, e0, e1, hb_u3_u4.out X]) ⟨IsEl.two (heap_alloc_new X _), (Below.refl X.heap.size X).alloc (Nat.le_refl _) _⟩
  ·intro ev X hT hb hk hf
   have e0 : IsEl X (ev (.tmp 37)) [u3, u4] := hf.1
   exact OpOk.c (by simp [execOp, resolve, invoke, hb.1, hb.2.1, go_sem]) (hm2.out _ X e0 (hT0.out.below hT).f)
  ·intro ev X hT hb hk hf
   exact OpOk.al hT.size (by simp [execOp, hzE, go_sem])
 intro w4 hX
 rintro _ rfl _ rfl _ rfl _ rfl _ - _ rfl _ rfl _ rfl _ rfl _ rfl _ - _ rfl _ - _ rfl _ ⟨g6, rfl, hgg6, hcg6⟩
 have H4 := hide (on_fresh H3.out hX hgg6 hcg6)
 have S4 := hide (S3.out.trans (Str.below hX))
 clear hX H3 S3 hgg6 hcg6
 clear hT0
 go_wp2
 refine Rest.done ?_
 have H5 := hide (st0 H4.out (cs := Bb))
 have S5 := hide (S4.out.setRow (g6) Bb)
 have gW := on_blk_mul H4.out
 go_wp2_with (first
  | (refine wS gW HsBb HzBb HoBb ?_))
 refine hK3.out _ _ ?_
 clear hK3 K3
 generalize w4.setRow (g6) Bb = w5 at *
 clear gW H4 S4
 refine wp_seq_h fun K4 hK4 => ?_
 have hT0 := hide (hTab.out.below (all_below H5.out.right.right.right.right.right S5.out))
 refine wp_region_seq 8 [isV (.pointer (some ⟨w.heap.size, 12, .none⟩)), isV (.agg PT), isV (.agg D2), isV (.pointer (some ⟨w.heap.size + 1, 12, .none⟩)), isV (.agg QT), fun v X => IsEl X v [pt, d2, qt], isV (.agg Cc), Fresh w5.heap.size (.cells Z4 25 (0, 0))]
  (by simp only [List.take_succ_cons, List.take_zero]; rfl) (by simp only [List.drop_succ_cons, List.drop_zero]; rfl) (by kernel_rfl) (by kernel_rfl) (by kernel_rfl) (by decide) rfl ?keep ?todo ?rest
 case keep => exact ⟨Keep.isV _, Keep.isV _, Keep.isV _, Keep.isV _, Keep.isV _, fun _ _ _ h k => IsEl.below h k, Keep.isV _, Fresh.keep, trivial⟩
 case todo =>
  refine ⟨?_, ?_, ?_, ?_, ?_, ?_, ?_, ?_, trivial⟩
  ·intro ev X hT hb hk hf
   have e0 : ev (.tmp 2) = .pointer (some ⟨w.heap.size, 0, .none⟩) := hk.1
   exact OpOk.r (by simp [execOp, e0, go_sem])
  ·intro ev X hT hb hk hf
   have e0 : ev (.tmp 39) = _ := hf.1
   exact OpOk.lp e0 (rowPart (on_blk_mul (H5.out.below hT).right.right.right.right) HpPP_12.out) hu HsPT.out
  ·intro ev X hT hb hk hf
   exact OpOk.load_part _ _ rfl 3 0 (hb.2.2 _) D2 _ (fun j v hv => Hdd.out X (hT0.out.below hT) j v hv) hu rfl HsD2.out ⟨rfl, Stay.refl _⟩
  ·intro ev X hT hb hk hf
   have e0 : ev (.tmp 3) = .pointer (some ⟨w.heap.size + 1, 0, .none⟩) := hk.1
   exact OpOk.r (by simp [execOp, e0, go_sem])
  ·intro ev X hT hb hk hf
   have e0 : ev (.tmp 42) = _ := hf.1
   exact OpOk.lp e0 (rowPart (on_blk_mul (H5.out.below hT).right.right.right) HpQQ_12.out) hu HsQT.out
  ·intro ev X hT hb hk hf
   have e0 : ev (.tmp 40) = _ := hf.1
   have e1 : ev (.tmp 41) = _ := hf.2.1
   have e2 : ev (.tmp 43) = _ := hf.2.2.1
   exact OpOk.run (v := .slice (some ⟨X.heap.size, 0, .none⟩) 3 3) (W' := X.alloc (.cells #[lv (limb pt 0), lv (limb pt 1), lv (limb pt 2), lv (limb pt 3), lv (limb d2 0), lv (limb d2 1), lv (limb d2 2), lv (limb d2 3), lv (limb qt 0), lv (limb qt 1), lv (limb qt 2), lv (limb qt 3)] 25)) (by simp [execOp, e0, e1, e2, hb_c3.out X]) ⟨IsEl.three (heap_alloc_new X _), (Below.refl X.heap.size X).alloc (Nat.le_refl _) _⟩
  ·intro ev X hT hb hk hf
   have e0 : IsEl X (ev (.tmp 44)) [pt, d2, qt] := hf.1
   exact OpOk.c (by simp [execOp, resolve, invoke, hb.1, hb.2.1, go_sem]) (hm3.out _ X e0 (hT0.out.below hT).f)
  ·intro ev X hT hb hk hf
   exact OpOk.al hT.size (by simp [execOp, hzE, go_sem])
 case rest =>
  intro w6 hX
  rintro _ rfl _ rfl _ rfl _ rfl _ rfl _ - _ rfl _ ⟨g7, rfl, hgg7, hcg7⟩
  have H6 := hide (on_fresh H5.out hX hgg7 hcg7)
  have S6 := hide (S5.out.trans (Str.below hX))
  clear hX H5 S5 hgg7 hcg7
  clear hT0
  go_wp2
  refine Rest.done ?_
  have H7 := hide (st0 H6.out (cs := Cc))
  have S7 := hide (S6.out.setRow (g7) Cc)
  have gW := on_blk_mul H6.out
  go_wp2_with (first
   | (refine wS gW HsCc HzCc HoCc ?_))
  refine hK4.out _ _ ?_
  clear hK4 K4
  generalize w6.setRow (g7) Cc = w7 at *
  clear gW H6 S6
  refine wp_seq_h fun K5 hK5 => ?_
  have hT0 := hide (hTab.out.below (all_below H7.out.right.right.right.right.right.right S7.out))
  refine wp_region_seq 7 [isV (.pointer (some ⟨w.heap.size, 8, .none⟩)), isV (.agg PZ), isV (.pointer (some ⟨w.heap.size + 1, 8, .none⟩)), isV (.agg QZ), fun v X => IsEl X v [pz, qz], isV (.agg Z0), Fresh w7.heap.size (.cells Z4 25 (0, 0))]
   (by simp only [List.take_succ_cons, List.take_zero]; rfl) (by simp only [List.drop_succ_cons, List.drop_zero]; rfl) (by kernel_rfl) (by kernel_rfl) (by kernel_rfl) (by decide) rfl ?keep ?todo ?r37
  case keep => exact ⟨Keep.isV _, Keep.isV _, Keep.isV _, Keep.isV _, fun _ _ _ h k => IsEl.below h k, Keep.isV _, Fresh.keep, trivial⟩
  case todo =>
   refine ⟨?_, ?_, ?_, ?_, ?_, ?_, ?_, trivial⟩
   ·intro ev X hT hb hk hf
    have e0 : ev (.tmp 2) = .pointer (some ⟨w.heap.size, 0, .none⟩) := hk.1
    exact OpOk.r (by simp [execOp, e0, go_sem])
   ·intro ev X hT hb hk hf
    have e0 : ev (.tmp 46) = _ := hf.1
    exact OpOk.lp e0 (rowPart (on_blk_mul (H7.out.below hT).right.right.right.right.right) HpPP_8.out) hu HsPZ.out
   ·intro ev X hT hb hk hf
    have e0 : ev (.tmp 3) = .pointer (some ⟨w.heap.size + 1, 0, .none⟩) := hk.1
    exact OpOk.r (by simp [execOp, e0, go_sem])
   ·intro ev X hT hb hk hf
    have e0 : ev (.tmp 48) = _ := hf.1
    exact OpOk.lp e0 (rowPart (on_blk_mul (H7.out.below hT).right.right.right.right) HpQQ_8.out) hu HsQZ.out
   ·intro ev X hT hb hk hf
    have e0 : ev (.tmp 47) = _ := hf.1
    have e1 : ev (.tmp 49) = _ := hf.2.1
    exact OpOk.run (v := .slice (some ⟨X.heap.size, 0, .none⟩) 2 2) (W' := X.alloc (.cells #[lv (limb pz 0), lv (limb pz 1), lv (limb pz 2), lv (limb pz 3), lv (limb qz 0), lv (limb qz 1), lv (limb qz 2), lv (limb qz 3)] 25)) (by simp [execOp, e0, e1, hb_pz_qz.out X]) ⟨IsEl.two (heap_alloc_new X _), (Below.refl X.heap.size X).alloc (Nat.le_refl _) _⟩
   ·intro ev X hT hb hk hf
    have e0 : IsEl X (ev (.tmp 50)) [pz, qz] := hf.1
    exact OpOk.c (by simp [execOp, resolve, invoke, hb.1, hb.2.1, go_sem]) (hm4.out _ X e0 (hT0.out.below hT).f)
   ·intro ev X hT hb hk hf
    exact OpOk.al hT.size (by simp [execOp, hzE, go_sem])
  intro w8 hX
  rintro _ rfl _ rfl _ rfl _ rfl _ - _ rfl _ ⟨g8, rfl, hgg8, hcg8⟩
  have H8 := hide (on_fresh H7.out hX hgg8 hcg8)
  have S8 := hide (S7.out.trans (Str.below hX))
  clear hX H7 S7 hgg8 hcg8
  clear hT0
  go_wp2
  refine Rest.done ?_
  have H9 := hide (st0 H8.out (cs := Z0))
  have S9 := hide (S8.out.setRow (g8) Z0)
  have gW := on_blk_mul H8.out
  go_wp2_with (first
   | (refine wS gW HsZ0 HzZ0 HoZ0 ?_))
  refine hK5.out _ _ ?_
  clear hK5 K5
  generalize w8.setRow (g8) Z0 = w9 at *
  clear gW H8 S8
  refine wp_seq_h fun K6 hK6 => ?_
  have hT0 := hide (hTab.out.below (all_below H9.out.right.right.right.right.right.right.right S9.out))
  refine wp_region_seq 4 [isV (.agg Z0), isV (.agg Z0), fun v X => IsEl X v [z0, z0], isV (.agg Zz)]
   (by simp only [List.take_succ_cons, List.take_zero]; rfl) (by simp only [List.drop_succ_cons, List.drop_zero]; rfl) (by kernel_rfl) (by kernel_rfl) (by kernel_rfl) (by decide) rfl ?keep ?todo ?r38
  case keep => exact ⟨Keep.isV _, Keep.isV _, fun _ _ _ h k => IsEl.below h k, Keep.isV _, trivial⟩
  case todo =>
   refine ⟨?_, ?_, ?_, ?_, trivial⟩
   ·exact fun ev X hT hb hk hf => OpOk.l (x := .tmp 8) hk.1 (on_blk_mul (H9.out.below hT)) hu HsZ0.out
   ·exact fun ev X hT hb hk hf => OpOk.l (x := .tmp 8) hk.1 (on_blk_mul (H9.out.below hT)) hu HsZ0.out
   ·intro ev X hT hb hk hf
    have e0 : ev (.tmp 52) = _ := hf.1
    have e1 : ev (.tmp 53) = _ := hf.2.1
    exact OpOk.run (v := .slice (some ⟨X.heap.size, 0, .none⟩) 2 2) (W' := X.alloc (.cells #[lv (limb z0 0), lv (limb z0 1), lv (limb z0 2), lv (limb z0 3), lv (limb z0 0), lv (limb z0 1), lv (limb z0 2), lv (limb z0 3)] 25)) (by simp [execOp, e0, e1, hb_z0_z0.out X]) ⟨IsEl.two (heap_alloc_new X _), (Below.refl X.heap.size X).alloc (Nat.le_refl _) _⟩
   ·intro ev X hT hb hk hf
    have e0 : IsEl X (ev (.tmp 54)) [z0, z0] := hf.1
    exact OpOk.c (by simp [execOp, resolve, invoke, hb.1, hb.2.1, go_sem]) (ha3.out _ X e0 (hT0.out.below hT).f)
  intro w10 hX
  rintro _ rfl _ rfl _ - _ rfl
  obtain ⟨H10, S10⟩ := nx H9.out S9.out hX
  clear hX H9 S9
  clear hT0
  go_wp2
  refine Rest.done ?_
  have H11 := hide (st0 H10.out (cs := Zz))
  have S11 := hide (S10.out.setRow (g8) Zz)
  have gW := on_blk_mul H10.out
  go_wp2_with (first
   | (refine wS gW HsZz.out (HzZ0.out.symm.trans HzZz.out) HoZz.out ?_))
  refine hK6.out _ _ ?_
  clear hK6 K6
  generalize w10.setRow (g8) Zz = w11 at *
  clear gW H10 S10
  refine wp_seq_h fun K7 hK7 => ?_
  refine Multi2.wp_region_multi [8, 9, 12, 13, 14, 15, 16, 17, 18, 19, 20, 21] [8, 12, 14, 15, 16, 17] [18, 19, 20, 21] [isV (.agg Bb), isV (.agg Aa), isV (.agg Ee), isV (.agg Zz), isV (.agg Cc), isV (.agg Ff), isV (.agg Zz), isV (.agg Cc), (fun _ _ => True), isV (.agg Gg), isV (.agg Bb), isV (.agg Aa), (fun _ _ => True), isV (.agg Hh), (fun _ _ => True), (fun _ _ => True), (fun _ _ => True), (fun _ _ => True), (fun _ _ => True), (fun _ _ => True), (fun _ _ => True), (fun _ _ => True)]
   (by kernel_rfl) (by kernel_rfl) (by kernel_rfl) ⟨rfl, rfl, rfl, rfl, trivial⟩ (fun f s X => (Multi2.opt (f 14) (Multi2.bv (s 14) (.cells (if f 18 = true then Ee else Z4) 25 (0, 0))) * (Multi2.opt (f 15) (Multi2.bv (s 15) (.cells (if f 19 = true then Ff else Z4) 25 (0, 0))) * (Multi2.opt (f 16) (Multi2.bv (s 16) (.cells (if f 20 = true then Gg else Z4) 25 (0, 0))) * (Multi2.opt (f 17) (Multi2.bv (s 17) (.cells (if f 21 = true then Hh else Z4) 25 (0, 0))) * ((blk (g8) (.cells Zz 25 (0, 0)) * (blk (g7) (.cells Cc 25 (0, 0)) * (blk (g6) (.cells Bb 25 (0, 0)) * (blk (g5) (.cells Aa 25 (0, 0)) * (blk (w.heap.size + 1 + 1) (.cells Zs 73 (0, 0)) * (blk (w.heap.size + 1) (.cells QQ 73 (0, 0)) * (blk (w.heap.size) (.cells PP 73 (0, 0)) * all w)))))))))))).on X ∧ Str w X ∧ (f 8 = true → f 9 = false → f 18 = false → f 19 = false → f 20 = false → f 21 = false → IsEl X (s 8) [zz, c]) ∧ (f 12 = true → f 13 = false → f 18 = false → f 19 = false → f 20 = false → f 21 = false → IsEl X (s 12) [b, a])) (fun _ => ⟨on_emp_mul.2 (on_emp_mul.2 (on_emp_mul.2 (on_emp_mul.2 (SP.on.drew H11.out)))), Str.drew S11.out, (by intro h; cases h), (by intro h; cases h)⟩) (fun f s a b h st => ⟨h.1.below st, h.2.1.trans (Str.below st), (by intro h3 h4 hs18 hs19 hs20 hs21; exact (h.2.2.1 h3 h4 hs18 hs19 hs20 hs21).below st), (by intro h3 h4 hs18 hs19 hs20 hs21; exact (h.2.2.2 h3 h4 hs18 hs19 hs20 hs21).below st)⟩) (fun f g s t X h h9 hI => by
 have e8 := h 8 rfl
 have e9 := h 9 rfl
 have e12 := h 12 rfl
 have e13 := h 13 rfl
 have e14 := h 14 rfl
 have e15 := h 15 rfl
 have e16 := h 16 rfl
 have e17 := h 17 rfl
 have e18 := h 18 rfl
 have e19 := h 19 rfl
 have e20 := h 20 rfl
 have e21 := h 21 rfl
 have i8 := h9 8 rfl
 have i12 := h9 12 rfl
 have i14 := h9 14 rfl
 have i15 := h9 15 rfl
 have i16 := h9 16 rfl
 have i17 := h9 17 rfl
 rw [← e8, ← e9, ← e12, ← e13, ← e14, ← e15, ← e16, ← e17, ← e18, ← e19, ← e20, ← e21]
 refine ⟨?_, hI.2.1, (by intro h3 h4 hs18 hs19 hs20 hs21; first | (rw [← i8 h3]; exact hI.2.2.1 h3 h4 hs18 hs19 hs20 hs21) | (rw [i8 h3]; exact hI.2.2.1 h3 h4 hs18 hs19 hs20 hs21)), (by intro h3 h4 hs18 hs19 hs20 hs21; first | (rw [← i12 h3]; exact hI.2.2.2 h3 h4 hs18 hs19 hs20 hs21) | (rw [i12 h3]; exact hI.2.2.2 h3 h4 hs18 hs19 hs20 hs21))⟩
 have := hI.1
 clear i8 i12 e8 e9 e12 e13 e14 e15 e16 e17 e18 e19 e20 e21 h9 h hI
 revert this i14 i15 i16 i17
 cases f 14 <;> cases f 15 <;> cases f 16 <;> cases f 17 <;> intro i14 i15 i16 i17 <;> simp_all [Multi2.opt]) ?keep ?todo ?r39 (by decide) (by decide)
  case keep => exact ⟨Keep.isV _, Keep.isV _, Keep.isV _, Keep.isV _, Keep.isV _, Keep.isV _, Keep.isV _, Keep.isV _, fun _ _ _ h _ => h, Keep.isV _, Keep.isV _, Keep.isV _, fun _ _ _ h _ => h, Keep.isV _, fun _ _ _ h _ => h, fun _ _ _ h _ => h, fun _ _ _ h _ => h, fun _ _ _ h _ => h, fun _ _ _ h _ => h, fun _ _ _ h _ => h, fun _ _ _ h _ => h, fun _ _ _ h _ => h, trivial⟩
  case todo =>
   refine ⟨?_, ?_, ?_, ?_, ?_, ?_, ?_, ?_, ?_, ?_, ?_, ?_, ?_, ?_, ?_, ?_, ?_, ?_, ?_, ?_, ?_, ?_, trivial⟩
   ·intro f hf0 hw hn ev X hT hb hk hf
    have e0 : ev (.tmp 6) = .pointer (some ⟨g6, 0, .none⟩) := by have h9 := hk.1; rw [if_pos (by kernel_rfl)] at h9; exact h9
    exact OpOk.load_row _ _ rfl _ e0 _ Bb (0, 0) _ (on_blk_mul hT.1.right.right.right.right.right.right) hu rfl HsBb.out (Multi2.ended_stay rfl rfl (Stay.refl _))
   ·intro f hf0 hw hn ev X hT hb hk hf
    have e0 : ev (.tmp 5) = .pointer (some ⟨g5, 0, .none⟩) := by have h9 := hk.1; rw [if_pos (by kernel_rfl)] at h9; exact h9
    exact OpOk.load_row _ _ rfl _ e0 _ Aa (0, 0) _ (on_blk_mul hT.1.right.right.right.right.right.right.right) hu rfl HsAa.out (Multi2.ended_stay rfl rfl (Stay.refl _))
   ·intro f hf0 hw hn ev X hT hb hk hf
    have e0 : ev (.tmp 56) = _ := hf.1
    have e1 : ev (.tmp 57) = _ := hf.2.1
    refine OpOk.enters (f := 74) (args := #[.agg Bb, .agg Aa]) (W' := X) (by simp [execOp, resolve, invoke, e0, e1, hb.1, hb.2.1, go_sem]) ((hs3.out X (hTab.out.below (all_below hT.1.right.right.right.right.right.right.right.right.right.right.right hT.2.1)).f).mono ?_)
    rintro e _ ⟨rfl, hB⟩
    exact ⟨_, rfl, Multi2.ended_stay rfl rfl hB⟩
   ·intro f hf0 hw hn ev X hT hb hk hf
    have e0 : ev (.tmp 8) = .pointer (some ⟨g8, 0, .none⟩) := by have h9 := hk.1; rw [if_pos (by kernel_rfl)] at h9; exact h9
    exact OpOk.load_row _ _ rfl _ e0 _ Zz (0, 0) _ (on_blk_mul hT.1.right.right.right.right) hu rfl HsZz.out (Multi2.ended_stay rfl rfl (Stay.refl _))
   ·intro f hf0 hw hn ev X hT hb hk hf
    have e0 : ev (.tmp 7) = .pointer (some ⟨g7, 0, .none⟩) := by have h9 := hk.1; rw [if_pos (by kernel_rfl)] at h9; exact h9
    exact OpOk.load_row _ _ rfl _ e0 _ Cc (0, 0) _ (on_blk_mul hT.1.right.right.right.right.right) hu rfl HsCc.out (Multi2.ended_stay rfl rfl (Stay.refl _))
   ·intro f hf0 hw hn ev X hT hb hk hf
    have e0 : ev (.tmp 59) = _ := hf.1
    have e1 : ev (.tmp 60) = _ := hf.2.1
    refine OpOk.enters (f := 74) (args := #[.agg Zz, .agg Cc]) (W' := X) (by simp [execOp, resolve, invoke, e0, e1, hb.1, hb.2.1, go_sem]) ((hs4.out X (hTab.out.below (all_below hT.1.right.right.right.right.right.right.right.right.right.right.right hT.2.1)).f).mono ?_)
    rintro e _ ⟨rfl, hB⟩
    exact ⟨_, rfl, Multi2.ended_stay rfl rfl hB⟩
   ·intro f hf0 hw hn ev X hT hb hk hf
    have e0 : ev (.tmp 8) = .pointer (some ⟨g8, 0, .none⟩) := by have h9 := hk.1; rw [if_pos (by kernel_rfl)] at h9; exact h9
    exact OpOk.load_row _ _ rfl _ e0 _ Zz (0, 0) _ (on_blk_mul hT.1.right.right.right.right) hu rfl HsZz.out (Multi2.ended_stay rfl rfl (Stay.refl _))
   ·intro f hf0 hw hn ev X hT hb hk hf
    have e0 : ev (.tmp 7) = .pointer (some ⟨g7, 0, .none⟩) := by have h9 := hk.1; rw [if_pos (by kernel_rfl)] at h9; exact h9
    exact OpOk.load_row _ _ rfl _ e0 _ Cc (0, 0) _ (on_blk_mul hT.1.right.right.right.right.right) hu rfl HsCc.out (Multi2.ended_stay rfl rfl (Stay.refl _))
   ·intro f hf0 hw hn ev X hT hb hk hf
    have e0 : ev (.tmp 62) = _ := hf.1
    have e1 : ev (.tmp 63) = _ := hf.2.1
    exact OpOk.run (v := .slice (some ⟨X.heap.size, 0, .none⟩) 2 2) (W' := X.alloc (.cells #[lv (limb zz 0), lv (limb zz 1), lv (limb zz 2), lv (limb zz 3), lv (limb c 0), lv (limb c 1), lv (limb c 2), lv (limb c 3)] 25)) (by simp [execOp, e0, e1, hb_zz_c.out X]) (Multi2.ended_turn rfl trivial ⟨hT.1.below ((Below.refl X.heap.size X).alloc (Nat.le_refl _) _), hT.2.1.alloc _, (by intro h3 h4 hs18 hs19 hs20 hs21; exact IsEl.two (heap_alloc_new X _)), (by intro h3 h4 hs18 hs19 hs20 hs21; exact (hT.2.2.2 h3 h4 hs18 hs19 hs20 hs21).below ((Below.refl X.heap.size X).alloc (Nat.le_refl _) _))⟩ (Multi2.free_keep (by
     intro P hP
     simp only [List.mem_cons, List.not_mem_nil, or_false] at hP
     rcases hP with rfl | rfl | rfl | rfl | rfl | rfl | rfl | rfl | rfl | rfl | rfl | rfl | rfl | rfl | rfl | rfl | rfl | rfl | rfl | rfl | rfl | rfl <;> exact fun _ _ _ h => h) _ _))
   ·intro f hf0 hw hn ev X hT hb hk hf
    have e0 := hf.1
    have eS : IsEl X (ev (.tmp 64)) [zz, c] := hT.2.2.1 (hw 8 (by kernel_rfl)) hf0 (hn 18 (by kernel_rfl)) (hn 19 (by kernel_rfl)) (hn 20 (by kernel_rfl)) (hn 21 (by kernel_rfl))
    refine OpOk.enters (f := 75) (args := #[ev (.tmp 64)]) (W' := X) (by simp [execOp, resolve, invoke, hb.1, hb.2.1, go_sem]) ((ha4.out _ X eS (hTab.out.below (all_below hT.1.right.right.right.right.right.right.right.right.right.right.right hT.2.1)).f).mono ?_)
    rintro e X2 ⟨rfl, hB⟩
    exact ⟨_, rfl, Multi2.ended_turn rfl rfl ⟨hT.1.below hB, hT.2.1.trans (Str.below hB), (by intro h3 h4 hs18 hs19 hs20 hs21; exact nomatch (show true = false from h4)), (by intro h3 h4 hs18 hs19 hs20 hs21; exact (hT.2.2.2 h3 h4 hs18 hs19 hs20 hs21).below hB)⟩ (Multi2.free_keep (by
     intro P hP
     simp only [List.mem_cons, List.not_mem_nil, or_false] at hP
     rcases hP with rfl | rfl | rfl | rfl | rfl | rfl | rfl | rfl | rfl | rfl | rfl | rfl | rfl | rfl | rfl | rfl | rfl | rfl | rfl | rfl | rfl | rfl <;> exact fun _ _ _ h => h) _ _)⟩
   ·intro f hf0 hw hn ev X hT hb hk hf
    have e0 : ev (.tmp 6) = .pointer (some ⟨g6, 0, .none⟩) := by have h9 := hk.1; rw [if_pos (by kernel_rfl)] at h9; exact h9
    exact OpOk.load_row _ _ rfl _ e0 _ Bb (0, 0) _ (on_blk_mul hT.1.right.right.right.right.right.right) hu rfl HsBb.out (Multi2.ended_stay rfl rfl (Stay.refl _))
   ·intro f hf0 hw hn ev X hT hb hk hf
    have e0 : ev (.tmp 5) = .pointer (some ⟨g5, 0, .none⟩) := by have h9 := hk.1; rw [if_pos (by kernel_rfl)] at h9; exact h9
    exact OpOk.load_row _ _ rfl _ e0 _ Aa (0, 0) _ (on_blk_mul hT.1.right.right.right.right.right.right.right) hu rfl HsAa.out (Multi2.ended_stay rfl rfl (Stay.refl _))
   ·intro f hf0 hw hn ev X hT hb hk hf
    have e0 : ev (.tmp 66) = _ := hf.1
    have e1 : ev (.tmp 67) = _ := hf.2.1
    exact OpOk.run (v := .slice (some ⟨X.heap.size, 0, .none⟩) 2 2) (W' := X.alloc (.cells #[lv (limb b 0), lv (limb b 1), lv (limb b 2), lv (limb b 3), lv (limb a 0), lv (limb a 1), lv (limb a 2), lv (limb a 3)] 25)) (by simp [execOp, e0, e1, hb_b_a.out X]) (Multi2.ended_turn rfl trivial ⟨hT.1.below ((Below.refl X.heap.size X).alloc (Nat.le_refl _) _), hT.2.1.alloc _, (by intro h3 h4 hs18 hs19 hs20 hs21; exact (hT.2.2.1 h3 h4 hs18 hs19 hs20 hs21).below ((Below.refl X.heap.size X).alloc (Nat.le_refl _) _)), (by intro h3 h4 hs18 hs19 hs20 hs21; exact IsEl.two (heap_alloc_new X _))⟩ (Multi2.free_keep (by
     intro P hP
     simp only [List.mem_cons, List.not_mem_nil, or_false] at hP
     rcases hP with rfl | rfl | rfl | rfl | rfl | rfl | rfl | rfl | rfl | rfl | rfl | rfl | rfl | rfl | rfl | rfl | rfl | rfl | rfl | rfl | rfl | rfl <;> exact fun _ _ _ h => h) _ _))
   ·intro f hf0 hw hn ev X hT hb hk hf
    have e0 := hf.1
    have eS : IsEl X (ev (.tmp 68)) [b, a] := hT.2.2.2 (hw 12 (by kernel_rfl)) hf0 (hn 18 (by kernel_rfl)) (hn 19 (by kernel_rfl)) (hn 20 (by kernel_rfl)) (hn 21 (by kernel_rfl))
    refine OpOk.enters (f := 75) (args := #[ev (.tmp 68)]) (W' := X) (by simp [execOp, resolve, invoke, hb.1, hb.2.1, go_sem]) ((ha5.out _ X eS (hTab.out.below (all_below hT.1.right.right.right.right.right.right.right.right.right.right.right hT.2.1)).f).mono ?_)
    rintro e X2 ⟨rfl, hB⟩
    exact ⟨_, rfl, Multi2.ended_turn rfl rfl ⟨hT.1.below hB, hT.2.1.trans (Str.below hB), (by intro h3 h4 hs18 hs19 hs20 hs21; exact (hT.2.2.1 h3 h4 hs18 hs19 hs20 hs21).below hB), (by intro h3 h4 hs18 hs19 hs20 hs21; exact nomatch (show true = false from h4))⟩ (Multi2.free_keep (by
     intro P hP
     simp only [List.mem_cons, List.not_mem_nil, or_false] at hP
     rcases hP with rfl | rfl | rfl | rfl | rfl | rfl | rfl | rfl | rfl | rfl | rfl | rfl | rfl | rfl | rfl | rfl | rfl | rfl | rfl | rfl | rfl | rfl <;> exact fun _ _ _ h => h) _ _)⟩
   ·intro f hf0 hw hn ev X hT hb hk hf
    have fs : f 18 = false := hn 18 (by kernel_rfl)
    have hX := hT.1
    rw [hf0, Multi2.opt_false] at hX
    have hX2 := (on_emp_mul.1 hX).alloc (.cells Z4 25 (0, 0))
    exact OpOk.run (v := .pointer (some ⟨X.heap.size, 0, .none⟩)) (W' := X.alloc (.cells Z4 25)) (by simp [execOp, hzE, go_sem]) (Multi2.ended_turn rfl trivial ⟨by
     show (Multi2.opt true (Multi2.bv (.pointer (some ⟨X.heap.size, 0, .none⟩)) (.cells (if f 18 = true then Ee else Z4) 25 (0, 0))) * _).on _
     rw [fs]
     exact Multi2.blk_bv hX2, hT.2.1.alloc _, (by intro h3 h4 hs18 hs19 hs20 hs21; exact (hT.2.2.1 h3 h4 hs18 hs19 hs20 hs21).below ((Below.refl X.heap.size X).alloc (Nat.le_refl _) _)), (by intro h3 h4 hs18 hs19 hs20 hs21; exact (hT.2.2.2 h3 h4 hs18 hs19 hs20 hs21).below ((Below.refl X.heap.size X).alloc (Nat.le_refl _) _))⟩ (Multi2.free_keep (by
     intro P hP
     simp only [List.mem_cons, List.not_mem_nil, or_false] at hP
     rcases hP with rfl | rfl | rfl | rfl | rfl | rfl | rfl | rfl | rfl | rfl | rfl | rfl | rfl | rfl | rfl | rfl | rfl | rfl | rfl | rfl | rfl | rfl <;> exact fun _ _ _ h => h) _ _))
   ·intro f hf0 hw hn ev X hT hb hk hf
    have fs : f 19 = false := hn 19 (by kernel_rfl)
    have hX := hT.1
    rw [hf0, Multi2.opt_false, star_4_1] at hX
    have hX2 := (on_emp_mul.1 hX).alloc (.cells Z4 25 (0, 0))
    exact OpOk.run (v := .pointer (some ⟨X.heap.size, 0, .none⟩)) (W' := X.alloc (.cells Z4 25)) (by simp [execOp, hzE, go_sem]) (Multi2.ended_turn rfl trivial ⟨by
     show (_ * (Multi2.opt true (Multi2.bv (.pointer (some ⟨X.heap.size, 0, .none⟩)) (.cells (if f 19 = true then Ff else Z4) 25 (0, 0))) * _)).on _
     rw [fs, star_4_1]
     exact Multi2.blk_bv hX2, hT.2.1.alloc _, (by intro h3 h4 hs18 hs19 hs20 hs21; exact (hT.2.2.1 h3 h4 hs18 hs19 hs20 hs21).below ((Below.refl X.heap.size X).alloc (Nat.le_refl _) _)), (by intro h3 h4 hs18 hs19 hs20 hs21; exact (hT.2.2.2 h3 h4 hs18 hs19 hs20 hs21).below ((Below.refl X.heap.size X).alloc (Nat.le_refl _) _))⟩ (Multi2.free_keep (by
     intro P hP
     simp only [List.mem_cons, List.not_mem_nil, or_false] at hP
     rcases hP with rfl | rfl | rfl | rfl | rfl | rfl | rfl | rfl | rfl | rfl | rfl | rfl | rfl | rfl | rfl | rfl | rfl | rfl | rfl | rfl | rfl | rfl <;> exact fun _ _ _ h => h) _ _))
   ·intro f hf0 hw hn ev X hT hb hk hf
    have fs : f 20 = false := hn 20 (by kernel_rfl)
    have hX := hT.1
    rw [hf0, Multi2.opt_false, star_4_2] at hX
    have hX2 := (on_emp_mul.1 hX).alloc (.cells Z4 25 (0, 0))
    exact OpOk.run (v := .pointer (some ⟨X.heap.size, 0, .none⟩)) (W' := X.alloc (.cells Z4 25)) (by simp [execOp, hzE, go_sem]) (Multi2.ended_turn rfl trivial ⟨by
     show (_ * (_ * (Multi2.opt true (Multi2.bv (.pointer (some ⟨X.heap.size, 0, .none⟩)) (.cells (if f 20 = true then Gg else Z4) 25 (0, 0))) * _))).on _
     rw [fs, star_4_2]
     exact Multi2.blk_bv hX2, hT.2.1.alloc _, (by intro h3 h4 hs18 hs19 hs20 hs21; exact (hT.2.2.1 h3 h4 hs18 hs19 hs20 hs21).below ((Below.refl X.heap.size X).alloc (Nat.le_refl _) _)), (by intro h3 h4 hs18 hs19 hs20 hs21; exact (hT.2.2.2 h3 h4 hs18 hs19 hs20 hs21).below ((Below.refl X.heap.size X).alloc (Nat.le_refl _) _))⟩ (Multi2.free_keep (by
     intro P hP
     simp only [List.mem_cons, List.not_mem_nil, or_false] at hP
     rcases hP with rfl | rfl | rfl | rfl | rfl | rfl | rfl | rfl | rfl | rfl | rfl | rfl | rfl | rfl | rfl | rfl | rfl | rfl | rfl | rfl | rfl | rfl <;> exact fun _ _ _ h => h) _ _))
   ·intro f hf0 hw hn ev X hT hb hk hf
    have fs : f 21 = false := hn 21 (by kernel_rfl)
    have hX := hT.1
    rw [hf0, Multi2.opt_false, star_4_3] at hX
    have hX2 := (on_emp_mul.1 hX).alloc (.cells Z4 25 (0, 0))
    exact OpOk.run (v := .pointer (some ⟨X.heap.size, 0, .none⟩)) (W' := X.alloc (.cells Z4 25)) (by simp [execOp, hzE, go_sem]) (Multi2.ended_turn rfl trivial ⟨by
     show (_ * (_ * (_ * (Multi2.opt true (Multi2.bv (.pointer (some ⟨X.heap.size, 0, .none⟩)) (.cells (if f 21 = true then Hh else Z4) 25 (0, 0))) * _)))).on _
     rw [fs, star_4_3]
     exact Multi2.blk_bv hX2, hT.2.1.alloc _, (by intro h3 h4 hs18 hs19 hs20 hs21; exact (hT.2.2.1 h3 h4 hs18 hs19 hs20 hs21).below ((Below.refl X.heap.size X).alloc (Nat.le_refl _) _)), (by intro h3 h4 hs18 hs19 hs20 hs21; exact (hT.2.2.2 h3 h4 hs18 hs19 hs20 hs21).below ((Below.refl X.heap.size X).alloc (Nat.le_refl _) _))⟩ (Multi2.free_keep (by
     intro P hP
     simp only [List.mem_cons, List.not_mem_nil, or_false] at hP
     rcases hP with rfl | rfl | rfl | rfl | rfl | rfl | rfl | rfl | rfl | rfl | rfl | rfl | rfl | rfl | rfl | rfl | rfl | rfl | rfl | rfl | rfl | rfl <;> exact fun _ _ _ h => h) _ _))
   ·intro f hf0 hw hn ev X hT hb hk hf
    have e0 := hf.1
    have e1 : ev (.tmp 58) = _ := hf.2.1
    have fa : f 14 = true := hw 14 (by kernel_rfl)
    have hX := hT.1
    rw [fa, hf0] at hX
    have hX' : (Multi2.bv (ev (.tmp 9)) (.cells Z4 25 (0, 0)) * _).on X := hX
    obtain ⟨g, hg, hX2⟩ := Multi2.bv_blk hX'
    exact OpOk.store_agg _ _ _ rfl g Ee hg e1 _ Z4 hX2 HsEe.out HzEe.out HoEe.out (fun h3 => Multi2.ended_turn rfl trivial ⟨by
     show (Multi2.opt (f 14) (Multi2.bv (ev (.tmp 9)) (.cells Ee 25 (0, 0))) * _).on _
     rw [fa, hg]
     exact Multi2.blk_bv h3, hT.2.1.setRow _ _, (by intro h3 h4 hs18 hs19 hs20 hs21; exact nomatch (show true = false from hs18)), (by intro h3 h4 hs18 hs19 hs20 hs21; exact nomatch (show true = false from hs18))⟩ (Multi2.free_keep (by
     intro P hP
     simp only [List.mem_cons, List.not_mem_nil, or_false] at hP
     rcases hP with rfl | rfl | rfl | rfl | rfl | rfl | rfl | rfl | rfl | rfl | rfl | rfl | rfl | rfl | rfl | rfl | rfl | rfl | rfl | rfl | rfl | rfl <;> exact fun _ _ _ h => h) _ _))
   ·intro f hf0 hw hn ev X hT hb hk hf
    have e0 := hf.1
    have e1 : ev (.tmp 61) = _ := hf.2.1
    have fa : f 15 = true := hw 15 (by kernel_rfl)
    have hX := hT.1
    rw [fa, hf0, star_4_1] at hX
    have hX' : (Multi2.bv (ev (.tmp 10)) (.cells Z4 25 (0, 0)) * _).on X := hX
    obtain ⟨g, hg, hX2⟩ := Multi2.bv_blk hX'
    exact OpOk.store_agg _ _ _ rfl g Ff hg e1 _ Z4 hX2 HsFf.out HzFf.out HoFf.out (fun h3 => Multi2.ended_turn rfl trivial ⟨by
     show (_ * (Multi2.opt (f 15) (Multi2.bv (ev (.tmp 10)) (.cells Ff 25 (0, 0))) * _)).on _
     rw [fa, hg, star_4_1]
     exact Multi2.blk_bv h3, hT.2.1.setRow _ _, (by intro h3 h4 hs18 hs19 hs20 hs21; exact nomatch (show true = false from hs19)), (by intro h3 h4 hs18 hs19 hs20 hs21; exact nomatch (show true = false from hs19))⟩ (Multi2.free_keep (by
     intro P hP
     simp only [List.mem_cons, List.not_mem_nil, or_false] at hP
     rcases hP with rfl | rfl | rfl | rfl | rfl | rfl | rfl | rfl | rfl | rfl | rfl | rfl | rfl | rfl | rfl | rfl | rfl | rfl | rfl | rfl | rfl | rfl <;> exact fun _ _ _ h => h) _ _))
   ·intro f hf0 hw hn ev X hT hb hk hf
    have e0 := hf.1
    have e1 : ev (.tmp 65) = _ := hf.2.1
    have fa : f 16 = true := hw 16 (by kernel_rfl)
    have hX := hT.1
    rw [fa, hf0, star_4_2] at hX
    have hX' : (Multi2.bv (ev (.tmp 11)) (.cells Z4 25 (0, 0)) * _).on X := hX
    obtain ⟨g, hg, hX2⟩ := Multi2.bv_blk hX'
    exact OpOk.store_agg _ _ _ rfl g Gg hg e1 _ Z4 hX2 HsGg.out HzGg.out HoGg.out (fun h3 => Multi2.ended_turn rfl trivial ⟨by
     show (_ * (_ * (Multi2.opt (f 16) (Multi2.bv (ev (.tmp 11)) (.cells Gg 25 (0, 0))) * _))).on _
     rw [fa, hg, star_4_2]
     exact Multi2.blk_bv h3, hT.2.1.setRow _ _, (by intro h3 h4 hs18 hs19 hs20 hs21; exact nomatch (show true = false from hs20)), (by intro h3 h4 hs18 hs19 hs20 hs21; exact nomatch (show true = false from hs20))⟩ (Multi2.free_keep (by
     intro P hP
     simp only [List.mem_cons, List.not_mem_nil, or_false] at hP
     rcases hP with rfl | rfl | rfl | rfl | rfl | rfl | rfl | rfl | rfl | rfl | rfl | rfl | rfl | rfl | rfl | rfl | rfl | rfl | rfl | rfl | rfl | rfl <;> exact fun _ _ _ h => h) _ _))
   ·intro f hf0 hw hn ev X hT hb hk hf
    have e0 := hf.1
    have e1 : ev (.tmp 69) = _ := hf.2.1
    have fa : f 17 = true := hw 17 (by kernel_rfl)
    have hX := hT.1
    rw [fa, hf0, star_4_3] at hX
    have hX' : (Multi2.bv (ev (.tmp 12)) (.cells Z4 25 (0, 0)) * _).on X := hX
    obtain ⟨g, hg, hX2⟩ := Multi2.bv_blk hX'
    exact OpOk.store_agg _ _ _ rfl g Hh hg e1 _ Z4 hX2 HsHh.out HzHh.out HoHh.out (fun h3 => Multi2.ended_turn rfl trivial ⟨by
     show (_ * (_ * (_ * (Multi2.opt (f 17) (Multi2.bv (ev (.tmp 12)) (.cells Hh 25 (0, 0))) * _)))).on _
     rw [fa, hg, star_4_3]
     exact Multi2.blk_bv h3, hT.2.1.setRow _ _, (by intro h3 h4 hs18 hs19 hs20 hs21; exact nomatch (show true = false from hs21)), (by intro h3 h4 hs18 hs19 hs20 hs21; exact nomatch (show true = false from hs21))⟩ (Multi2.free_keep (by
     intro P hP
     simp only [List.mem_cons, List.not_mem_nil, or_false] at hP
     rcases hP with rfl | rfl | rfl | rfl | rfl | rfl | rfl | rfl | rfl | rfl | rfl | rfl | rfl | rfl | rfl | rfl | rfl | rfl | rfl | rfl | rfl | rfl <;> exact fun _ _ _ h => h) _ _))
  intro X s hI
  rintro _ ⟨-, -⟩ _ ⟨-, -⟩ _ ⟨-, -⟩ _ ⟨-, -⟩ _ ⟨-, -⟩ _ ⟨-, -⟩ _ ⟨-, -⟩ _ ⟨-, -⟩ _ ⟨-, -⟩ _ ⟨-, -⟩ _ ⟨-, -⟩ _ ⟨-, -⟩ _ ⟨-, -⟩ _ ⟨-, -⟩ v14 ⟨k14, -⟩ v15 ⟨k15, -⟩ v16 ⟨k16, -⟩ v17 ⟨k17, -⟩ _ - _ - _ - _ -
  obtain ⟨hX, hSX, -⟩ := hI
  have hX0 : ((Multi2.bv (s 14) (.cells Ee 25 (0, 0))) * ((Multi2.bv (s 15) (.cells Ff 25 (0, 0))) * ((Multi2.bv (s 16) (.cells Gg 25 (0, 0))) * ((Multi2.bv (s 17) (.cells Hh 25 (0, 0))) * (blk (g8) (.cells Zz 25 (0, 0)) * (blk (g7) (.cells Cc 25 (0, 0)) * (blk (g6) (.cells Bb 25 (0, 0)) * (blk (g5) (.cells Aa 25 (0, 0)) * (blk (w.heap.size + 1 + 1) (.cells Zs 73 (0, 0)) * (blk (w.heap.size + 1) (.cells QQ 73 (0, 0)) * (blk (w.heap.size) (.cells PP 73 (0, 0)) * all w))))))))))).on X := hX
  clear hX
  have h9 := k14 rfl
  rw [← h9] at hX0
  clear h9 k14
  have h9 := k15 rfl
  rw [← h9] at hX0
  clear h9 k15
  have h9 := k16 rfl
  rw [← h9] at hX0
  clear h9 k16
  have h9 := k17 rfl
  rw [← h9] at hX0
  clear h9 k17
  obtain ⟨g9, g10, g11, g12, rfl, rfl, rfl, rfl, hY⟩ := bv_blk4 hX0
  have H12 := hide hY
  have S12 := hide hSX
  clear hX0 hY hSX H11 S11
  go_wp2
  refine Rest.done ?_
  go_wp2
  refine hK7.out _ _ ?_
  clear hK7 K7
  refine wp_seq_h fun K8 hK8 => ?_
  have hT0 := hide (hTab.out.below (all_below H12.out.right.right.right.right.right.right.right.right.right.right.right S12.out))
  refine wp_tail 17 [isV (.agg Ee), isV (.agg Ff), fun v X => IsEl X v [e, f], isV (.agg RX), isV (.agg Gg), isV (.agg Hh), fun v X => IsEl X v [g, h], isV (.agg RY), isV (.agg Ff), isV (.agg Gg), fun v X => IsEl X v [f, g], isV (.agg RZ), isV (.agg Ee), isV (.agg Hh), fun v X => IsEl X v [e, h], isV (.agg RT), isV (.agg RR)] ?keep ?todo ?r40
  case keep => exact ⟨Keep.isV _, Keep.isV _, fun _ _ _ h k => IsEl.below h k, Keep.isV _, Keep.isV _, Keep.isV _, fun _ _ _ h k => IsEl.below h k, Keep.isV _, Keep.isV _, Keep.isV _, fun _ _ _ h k => IsEl.below h k, Keep.isV _, Keep.isV _, Keep.isV _, fun _ _ _ h k => IsEl.below h k, Keep.isV _, Keep.isV _, trivial⟩
  case todo =>
   refine ⟨?_, ?_, ?_, ?_, ?_, ?_, ?_, ?_, ?_, ?_, ?_, ?_, ?_, ?_, ?_, ?_, ?_, trivial⟩
   ·exact fun ev X hT hb hk hf => OpOk.l (x := .tmp 9) hk.1 (on_blk_mul (H12.out.below hT)) hu HsEe.out
   ·exact fun ev X hT hb hk hf => OpOk.l (x := .tmp 10) hk.1 (on_blk_mul (H12.out.below hT).right) hu HsFf.out
   ·intro ev X hT hb hk hf
    have e0 : ev (.tmp 70) = _ := hf.1
    have e1 : ev (.tmp 71) = _ := hf.2.1
    exact OpOk.run (v := .slice (some ⟨X.heap.size, 0, .none⟩) 2 2) (W' := X.alloc (.cells #[lv (limb e 0), lv (limb e 1), lv (limb e 2), lv (limb e 3), lv (limb f 0), lv (limb f 1), lv (limb f 2), lv (limb f 3)] 25)) (by simp [execOp, e0, e1, hb_e_f.out X]) ⟨IsEl.two (heap_alloc_new X _), (Below.refl X.heap.size X).alloc (Nat.le_refl _) _⟩
   ·intro ev X hT hb hk hf
    have e0 : IsEl X (ev (.tmp 72)) [e, f] := hf.1
    exact OpOk.c (by simp [execOp, resolve, invoke, hb.1, hb.2.1, go_sem]) (hm5.out _ X e0 (hT0.out.below hT).f)
   ·exact fun ev X hT hb hk hf => OpOk.l (x := .tmp 11) hk.1 (on_blk_mul (H12.out.below hT).right.right) hu HsGg.out
   ·exact fun ev X hT hb hk hf => OpOk.l (x := .tmp 12) hk.1 (on_blk_mul (H12.out.below hT).right.right.right) hu HsHh.out
   ·intro ev X hT hb hk hf
    have e0 : ev (.tmp 74) = _ := hf.1
    have e1 : ev (.tmp 75) = _ := hf.2.1
    exact OpOk.run (v := .slice (some ⟨X.heap.size, 0, .none⟩) 2 2) (W' := X.alloc (.cells #[lv (limb g 0), lv (limb g 1), lv (limb g 2), lv (limb g 3), lv (limb h 0), lv (limb h 1), lv (limb h 2), lv (limb h 3)] 25)) (by simp [execOp, e0, e1, hb_g_h.out X]) ⟨IsEl.two (heap_alloc_new X _), (Below.refl X.heap.size X).alloc (Nat.le_refl _) _⟩
   ·intro ev X hT hb hk hf
    have e0 : IsEl X (ev (.tmp 76)) [g, h] := hf.1
    exact OpOk.c (by simp [execOp, resolve, invoke, hb.1, hb.2.1, go_sem]) (hm6.out _ X e0 (hT0.out.below hT).f)
   ·exact fun ev X hT hb hk hf => OpOk.l (x := .tmp 10) hk.1 (on_blk_mul (H12.out.below hT).right) hu HsFf.out
   ·exact fun ev X hT hb hk hf => OpOk.l (x := .tmp 11) hk.1 (on_blk_mul (H12.out.below hT).right.right) hu HsGg.out
   ·intro ev X hT hb hk hf
    have e0 : ev (.tmp 78) = _ := hf.1
    have e1 : ev (.tmp 79) = _ := hf.2.1
    exact OpOk.run (v := .slice (some ⟨X.heap.size, 0, .none⟩) 2 2) (W' := X.alloc (.cells #[lv (limb f 0), lv (limb f 1), lv (limb f 2), lv (limb f 3), lv (limb g 0), lv (limb g 1), lv (limb g 2), lv (limb g 3)] 25)) (by simp [execOp, e0, e1, hb_f_g.out X]) ⟨IsEl.two (heap_alloc_new X _), (Below.refl X.heap.size X).alloc (Nat.le_refl _) _⟩
   ·intro ev X hT hb hk hf
    have e0 : IsEl X (ev (.tmp 80)) [f, g] := hf.1
    exact OpOk.c (by simp [execOp, resolve, invoke, hb.1, hb.2.1, go_sem]) (hm7.out _ X e0 (hT0.out.below hT).f)
   ·exact fun ev X hT hb hk hf => OpOk.l (x := .tmp 9) hk.1 (on_blk_mul (H12.out.below hT)) hu HsEe.out
   ·exact fun ev X hT hb hk hf => OpOk.l (x := .tmp 12) hk.1 (on_blk_mul (H12.out.below hT).right.right.right) hu HsHh.out
   ·intro ev X hT hb hk hf
    have e0 : ev (.tmp 82) = _ := hf.1
    have e1 : ev (.tmp 83) = _ := hf.2.1
    exact OpOk.run (v := .slice (some ⟨X.heap.size, 0, .none⟩) 2 2) (W' := X.alloc (.cells #[lv (limb e 0), lv (limb e 1), lv (limb e 2), lv (limb e 3), lv (limb h 0), lv (limb h 1), lv (limb h 2), lv (limb h 3)] 25)) (by simp [execOp, e0, e1, hb_e_h.out X]) ⟨IsEl.two (heap_alloc_new X _), (Below.refl X.heap.size X).alloc (Nat.le_refl _) _⟩
   ·intro ev X hT hb hk hf
    have e0 : IsEl X (ev (.tmp 84)) [e, h] := hf.1
    exact OpOk.c (by simp [execOp, resolve, invoke, hb.1, hb.2.1, go_sem]) (hm8.out _ X e0 (hT0.out.below hT).f)
   ·intro ev X hT hb hk hf
    have e0 : ev (.tmp 73) = _ := hf.1
    have e1 : ev (.tmp 77) = _ := hf.2.1
    have e2 : ev (.tmp 81) = _ := hf.2.2.1
    have e3 : ev (.tmp 85) = _ := hf.2.2.2.1
    exact OpOk.r (by simp [execOp, e0, e1, e2, e3, hbsp.out X])
  intro w13 hX
  rintro _ rfl _ rfl _ - _ rfl _ rfl _ rfl _ - _ rfl _ rfl _ rfl _ - _ rfl _ rfl _ rfl _ - _ rfl _ rfl
  obtain ⟨H13, S13⟩ := nx H12.out S12.out hX
  clear hX H12 S12
  clear hT0
  go_wp2
  refine Rest.done ?_
  have gR := on_blk_mul H13.out.right.right.right.right.right.right.right.right
  have HB := hide (all_below H13.out.right.right.right.right.right.right.right.right.right.right.right S13.out)
  go_wp2_with (first
   | (refine wS gR HsRR HzRR HoRR ?_))
  refine hK8.out _ _ ?_
  clear hK8 K8
  go_wp2_with fail
  exact retR Tryd.results38 gR hus HsRR.out rfl HB.out (by omega)
theorem plus_any (s t : Ed.Sp) (w : World) (hT : TabC w) :
  Calls Tryd.prog 38 #[.agg (spC s), .agg (spC t)] w fun e w' => e = .returned (.agg (spC (s.add t))) ∧ Below w.heap.size w w' := by
 have h := plus_nat _ _ _ _ _ _ _ _ s.x.isLt s.y.isLt s.z.isLt s.t.isLt t.x.isLt t.y.isLt t.z.isLt t.t.isLt w hT
 have e := Ed.nAdd_ok s t
 unfold Ed.Sp.nat at e
 rw [← e] at h
 exact h
end Cv
end Go.Proofs.YtbplbdnofobbiaaDoor
