/- A part. -/
import Derived.Test.YtjdebgbiockafaaGreatDoorGCv1
set_option linter.unusedVariables false
set_option linter.unusedSimpArgs false
set_option maxRecDepth 100000
set_option maxHeartbeats 8000000
namespace Go.Proofs.YtjdebgbiockafaaGreatDoor
namespace Cv
open Fe
open Go.ChangeShapes Go.WideShapes Go.ChangeAt Go.RowKit
theorem bv_blk4 {v1 v2 v3 v4 : Value} {o1 o2 o3 o4 : Obj} {F : SP} {w : World} (h : (Multi2.bv v1 o1 * (Multi2.bv v2 o2 * (Multi2.bv v3 o3 * (Multi2.bv v4 o4 * F)))).on w) :
  ∃ g1 g2 g3 g4, v1 = .pointer (some ⟨g1, 0, .none⟩) ∧ v2 = .pointer (some ⟨g2, 0, .none⟩) ∧ v3 = .pointer (some ⟨g3, 0, .none⟩) ∧ v4 = .pointer (some ⟨g4, 0, .none⟩) ∧ (blk g1 o1 * (blk g2 o2 * (blk g3 o3 * (blk g4 o4 * F)))).on w := by
 obtain ⟨g1, e1, h⟩ := Multi2.bv_blk h
 rw [show blk g1 o1 * (Multi2.bv v2 o2 * (Multi2.bv v3 o3 * (Multi2.bv v4 o4 * F))) = Multi2.bv v2 o2 * (Multi2.bv v3 o3 * (Multi2.bv v4 o4 * (blk g1 o1 * F))) by ac_rfl] at h
 obtain ⟨g2, e2, h⟩ := Multi2.bv_blk h
 rw [show blk g2 o2 * (Multi2.bv v3 o3 * (Multi2.bv v4 o4 * (blk g1 o1 * F))) = Multi2.bv v3 o3 * (Multi2.bv v4 o4 * (blk g1 o1 * (blk g2 o2 * F))) by ac_rfl] at h
 obtain ⟨g3, e3, h⟩ := Multi2.bv_blk h
 rw [show blk g3 o3 * (Multi2.bv v4 o4 * (blk g1 o1 * (blk g2 o2 * F))) = Multi2.bv v4 o4 * (blk g1 o1 * (blk g2 o2 * (blk g3 o3 * F))) by ac_rfl] at h
 obtain ⟨g4, e4, h⟩ := Multi2.bv_blk h
 exact ⟨g1, g2, g3, g4, e1, e2, e3, e4, by
  rw [show blk g1 o1 * (blk g2 o2 * (blk g3 o3 * (blk g4 o4 * F))) = blk g4 o4 * (blk g1 o1 * (blk g2 o2 * (blk g3 o3 * F))) by ac_rfl]; exact h⟩
theorem star_4_1 (P Q T U R : SP) : P * (Q * (T * (U * R))) = Q * (P * (T * (U * R))) := by ac_rfl
theorem star_4_2 (P Q T U R : SP) : P * (Q * (T * (U * R))) = T * (P * (Q * (U * R))) := by ac_rfl
theorem star_4_3 (P Q T U R : SP) : P * (Q * (T * (U * R))) = U * (P * (Q * (T * R))) := by ac_rfl
theorem mul_three (u v z : Nat) (hu : u < P5) (hv : v < P5) (hz : z < P5) (vv : Value) (X : World) (h1 : IsEl X vv [u, v, z]) (h2 : Tab5 X) : Calls Tryz.prog 99 #[vv] X fun e w' => e = .returned (.agg (q4 (u * v % P5 * z % P5))) ∧ Below X.heap.size X w' := by
 have := mul_any vv [u, v, z] (by simp only [List.mem_cons, List.not_mem_nil, or_false]; rintro t (rfl | rfl | rfl) <;> assumption) (show 3 < 1000 by decide) X h1 h2
 rwa [show mulP [u, v, z] = u * v % P5 * z % P5 from rfl] at this
def spC (s : Ed.Sp) : Array Value := sC s.x.val s.y.val s.z.val s.t.val
theorem plus_nat (px py pz pt qx qy qz qt : Nat) (bpx : px < P5) (bpy : py < P5) (bpz : pz < P5) (bpt : pt < P5) (bqx : qx < P5) (bqy : qy < P5) (bqz : qz < P5) (bqt : qt < P5) (w : World) (hT : TabC w) :
  Calls Tryz.prog 94 #[.agg (sC px py pz pt), .agg (sC qx qy qz qt)] w fun e w' => e = .returned (.agg (sC (Ed.nAdd (px, py, pz, pt) (qx, qy, qz, qt)).1 (Ed.nAdd (px, py, pz, pt) (qx, qy, qz, qt)).2.1 (Ed.nAdd (px, py, pz, pt) (qx, qy, qz, qt)).2.2.1 (Ed.nAdd (px, py, pz, pt) (qx, qy, qz, qt)).2.2.2)) ∧ Below w.heap.size w w' := by
 unfold Ed.nAdd Ed.nMix Ed.nEnd
 dsimp only
 have hus := Tryz.underlying151
 have hu := Tryz.underlying126
 have hzS := sZero
 have hzE := eZero
 have h0 := (((on_all w).alloc (.cells (sC px py pz pt) 151)).alloc (.cells (sC qx qy qz qt) 151)).alloc (.cells (sC 0 0 0 0) 151)
 have s0 := (((Str.refl w).alloc (.cells (sC px py pz pt) 151)).alloc (.cells (sC qx qy qz qt) 151)).alloc (.cells (sC 0 0 0 0) 151)
 try simp only [World.size_alloc] at h0
 have H1 := hide h0
 have S1 := hide s0
 clear h0 s0
 have bd2 : (Ed.dN + Ed.dN) % P5 < P5 := Nat.mod_lt _ P5_pos
 have hdd := fun X (h : TabC X) => h.dd.part
 generalize (Ed.dN + Ed.dN) % P5 = d2 at *
 have Hdd := hide hdd
 clear hdd
 have s1 := fun X h => sub_any py px bpy bpx X h
 have bu1 : (py + (P5 - px)) % P5 < P5 := Nat.mod_lt _ P5_pos
 generalize heu1 : (py + (P5 - px)) % P5 = u1 at *
 have Heu1 := hide heu1
 clear heu1
 have hs1 := hide s1
 clear s1
 have s2 := fun X h => sub_any qy qx bqy bqx X h
 have bu2 : (qy + (P5 - qx)) % P5 < P5 := Nat.mod_lt _ P5_pos
 generalize heu2 : (qy + (P5 - qx)) % P5 = u2 at *
 have Heu2 := hide heu2
 clear heu2
 have hs2 := hide s2
 clear s2
 have m1 := mul_two u1 u2 bu1 bu2
 have ba : u1 * u2 % P5 < P5 := Nat.mod_lt _ P5_pos
 generalize hea : u1 * u2 % P5 = a at *
 have Hea := hide hea
 clear hea
 have hm1 := hide m1
 clear m1
 have a1 := add_two py px bpy bpx
 have bu3 : (py + px) % P5 < P5 := Nat.mod_lt _ P5_pos
 generalize heu3 : (py + px) % P5 = u3 at *
 have Heu3 := hide heu3
 clear heu3
 have ha1 := hide a1
 clear a1
 have a2 := add_two qy qx bqy bqx
 have bu4 : (qy + qx) % P5 < P5 := Nat.mod_lt _ P5_pos
 generalize heu4 : (qy + qx) % P5 = u4 at *
 have Heu4 := hide heu4
 clear heu4
 have ha2 := hide a2
 clear a2
 have m2 := mul_two u3 u4 bu3 bu4
 have bb : u3 * u4 % P5 < P5 := Nat.mod_lt _ P5_pos
 generalize heb : u3 * u4 % P5 = b at *
 have Heb := hide heb
 clear heb
 have hm2 := hide m2
 clear m2
 have m3 := mul_three pt d2 qt bpt bd2 bqt
 have bc : pt * d2 % P5 * qt % P5 < P5 := Nat.mod_lt _ P5_pos
 generalize hec : pt * d2 % P5 * qt % P5 = c at *
 have Hec := hide hec
 clear hec
 have hm3 := hide m3
 clear m3
 have m4 := mul_two pz qz bpz bqz
 have bz0 : pz * qz % P5 < P5 := Nat.mod_lt _ P5_pos
 generalize hez0 : pz * qz % P5 = z0 at *
 have Hez0 := hide hez0
 clear hez0
 have hm4 := hide m4
 clear m4
 have a3 := add_two z0 z0 bz0 bz0
 have bzz : (z0 + z0) % P5 < P5 := Nat.mod_lt _ P5_pos
 generalize hezz : (z0 + z0) % P5 = zz at *
 have Hezz := hide hezz
 clear hezz
 have ha3 := hide a3
 clear a3
 have s3 := fun X h => sub_any b a bb ba X h
 have be : (b + (P5 - a)) % P5 < P5 := Nat.mod_lt _ P5_pos
 generalize hee : (b + (P5 - a)) % P5 = e at *
 have Hee := hide hee
 clear hee
 have hs3 := hide s3
 clear s3
 have s4 := fun X h => sub_any zz c bzz bc X h
 have bf : (zz + (P5 - c)) % P5 < P5 := Nat.mod_lt _ P5_pos
 generalize hef : (zz + (P5 - c)) % P5 = f at *
 have Hef := hide hef
 clear hef
 have hs4 := hide s4
 clear s4
 have a4 := add_two zz c bzz bc
 have bg : (zz + c) % P5 < P5 := Nat.mod_lt _ P5_pos
 generalize heg : (zz + c) % P5 = g at *
 have Heg := hide heg
 clear heg
 have ha4 := hide a4
 clear a4
 have a5 := add_two b a bb ba
 have bh : (b + a) % P5 < P5 := Nat.mod_lt _ P5_pos
 generalize heh : (b + a) % P5 = h at *
 have Heh := hide heh
 clear heh
 have ha5 := hide a5
 clear a5
 have m5 := mul_two e f be bf
 have brx : e * f % P5 < P5 := Nat.mod_lt _ P5_pos
 generalize herx : e * f % P5 = rx at *
 have Herx := hide herx
 clear herx
 have hm5 := hide m5
 clear m5
 have m6 := mul_two g h bg bh
 have bry : g * h % P5 < P5 := Nat.mod_lt _ P5_pos
 generalize hery : g * h % P5 = ry at *
 have Hery := hide hery
 clear hery
 have hm6 := hide m6
 clear m6
 have m7 := mul_two f g bf bg
 have brz : f * g % P5 < P5 := Nat.mod_lt _ P5_pos
 generalize herz : f * g % P5 = rz at *
 have Herz := hide herz
 clear herz
 have hm7 := hide m7
 clear m7
 have m8 := mul_two e h be bh
 have brt : e * h % P5 < P5 := Nat.mod_lt _ P5_pos
 generalize hert : e * h % P5 = rt at *
 have Hert := hide hert
 clear hert
 have hm8 := hide m8
 clear m8
 have hbs2 := hide run_bs2
 have hbs3 := hide run_bs3
 have hbsp := hide (fun X => run_bsp rx ry rz rt X)
 have hTab := hide hT
 have Hbs2 : Hid (∀ (u v : Nat) X, (Instr.buildSlice 170 2 #[(0, .agg (q4 u)), (1, .agg (q4 v))]).run Tryz.prog X = .ok (.slice (some ⟨X.heap.size, 0, .none⟩) 2 2) (X.alloc (.cells #[lv (limb u 0), lv (limb u 1), lv (limb u 2), lv (limb u 3), lv (limb v 0), lv (limb v 1), lv (limb v 2), lv (limb v 3)] 126))) := hide run_bs2
 have hb_u1_u2 := hide (fun X => Hbs2.out u1 u2 X)
 have hb_py_px := hide (fun X => Hbs2.out py px X)
 have hb_qy_qx := hide (fun X => Hbs2.out qy qx X)
 have hb_u3_u4 := hide (fun X => Hbs2.out u3 u4 X)
 have hb_pz_qz := hide (fun X => Hbs2.out pz qz X)
 have hb_z0_z0 := hide (fun X => Hbs2.out z0 z0 X)
 have hb_zz_c := hide (fun X => Hbs2.out zz c X)
 have hb_b_a := hide (fun X => Hbs2.out b a X)
 have hb_e_f := hide (fun X => Hbs2.out e f X)
 have hb_g_h := hide (fun X => Hbs2.out g h X)
 have hb_f_g := hide (fun X => Hbs2.out f g X)
 have hb_e_h := hide (fun X => Hbs2.out e h X)
 have hb_c3 := hide (fun X => run_bs3 pt d2 qt X)
 obtain ⟨HsPP, HoPP, HzPP⟩ := b3 (sInfo px py pz pt) (sC_one px py pz pt) (sSize 0 0 0 0 px py pz pt)
 have HpPP_0 := hide (sC_x px py pz pt)
 have HpPP_4 := hide (sC_y px py pz pt)
 have HpPP_8 := hide (sC_z px py pz pt)
 have HpPP_12 := hide (sC_t px py pz pt)
 obtain ⟨HsQQ, HoQQ, HzQQ⟩ := b3 (sInfo qx qy qz qt) (sC_one qx qy qz qt) (sSize 0 0 0 0 qx qy qz qt)
 have HpQQ_0 := hide (sC_x qx qy qz qt)
 have HpQQ_4 := hide (sC_y qx qy qz qt)
 have HpQQ_8 := hide (sC_z qx qy qz qt)
 have HpQQ_12 := hide (sC_t qx qy qz qt)
 obtain ⟨HsRR, HoRR, HzRR⟩ := b3 (sInfo rx ry rz rt) (sC_one rx ry rz rt) (sSize 0 0 0 0 rx ry rz rt)
 obtain ⟨HsPX, HoPX, HzPX⟩ := eF px
 obtain ⟨HsPY, HoPY, HzPY⟩ := eF py
 obtain ⟨HsPZ, HoPZ, HzPZ⟩ := eF pz
 obtain ⟨HsPT, HoPT, HzPT⟩ := eF pt
 obtain ⟨HsQX, HoQX, HzQX⟩ := eF qx
 obtain ⟨HsQY, HoQY, HzQY⟩ := eF qy
 obtain ⟨HsQZ, HoQZ, HzQZ⟩ := eF qz
 obtain ⟨HsQT, HoQT, HzQT⟩ := eF qt
 obtain ⟨HsU1, HoU1, HzU1⟩ := eF u1
 obtain ⟨HsU2, HoU2, HzU2⟩ := eF u2
 obtain ⟨HsU3, HoU3, HzU3⟩ := eF u3
 obtain ⟨HsU4, HoU4, HzU4⟩ := eF u4
 obtain ⟨HsAa, HoAa, HzAa⟩ := eF a
 obtain ⟨HsBb, HoBb, HzBb⟩ := eF b
 obtain ⟨HsCc, HoCc, HzCc⟩ := eF c
 obtain ⟨HsZ0, HoZ0, HzZ0⟩ := eF z0
 obtain ⟨HsZz, HoZz, HzZz⟩ := eF zz
 obtain ⟨HsEe, HoEe, HzEe⟩ := eF e
 obtain ⟨HsFf, HoFf, HzFf⟩ := eF f
 obtain ⟨HsGg, HoGg, HzGg⟩ := eF g
 obtain ⟨HsHh, HoHh, HzHh⟩ := eF h
 obtain ⟨HsD2, HoD2, HzD2⟩ := eF d2
 obtain ⟨HsRX, HoRX, HzRX⟩ := eF rx
 obtain ⟨HsRY, HoRY, HzRY⟩ := eF ry
 obtain ⟨HsRZ, HoRZ, HzRZ⟩ := eF rz
 obtain ⟨HsRT, HoRT, HzRT⟩ := eF rt
 clear hbs2 hbs3 Hbs2 bpx bpy bpz bpt bqx bqy bqz bqt bd2 bu1 bu2 ba bu3 bu4 bb bc bz0 bzz be bf bg bh brx bry brz brt
 generalize sC px py pz pt = PP at *
 generalize sC qx qy qz qt = QQ at *
 generalize sC rx ry rz rt = RR at *
 generalize q4 px = PX at *
 generalize q4 py = PY at *
 generalize q4 pz = PZ at *
 generalize q4 pt = PT at *
 generalize q4 qx = QX at *
 generalize q4 qy = QY at *
 generalize q4 qz = QZ at *
 generalize q4 qt = QT at *
 generalize q4 u1 = U1 at *
 generalize q4 u2 = U2 at *
 generalize q4 u3 = U3 at *
 generalize q4 u4 = U4 at *
 generalize q4 a = Aa at *
 generalize q4 b = Bb at *
 generalize q4 c = Cc at *
 generalize q4 z0 = Z0 at *
 generalize q4 zz = Zz at *
 generalize q4 e = Ee at *
 generalize q4 f = Ff at *
 generalize q4 g = Gg at *
 generalize q4 h = Hh at *
 generalize q4 d2 = D2 at *
 generalize q4 rx = RX at *
 generalize q4 ry = RY at *
 generalize q4 rz = RZ at *
 generalize q4 rt = RT at *
 generalize sC 0 0 0 0 = Zs at *
 generalize q4 0 = Z4 at *
 go_enter Tryz.func94, Tryz.ntmps94
 refine wp_seq_h fun K1 hK1 => ?_
 go_wp2
 refine hK1.out _ _ ?_
 clear hK1 K1
 generalize ((w.alloc (.cells PP 151)).alloc (.cells QQ 151)).alloc (.cells Zs 151) = w1 at *
 refine wp_seq_h fun K2 hK2 => ?_
 have hT0 := hide (hTab.out.below (all_below H1.out.right.right.right S1.out))
 refine wp_tail 13 [isV (.pointer (some ⟨w.heap.size, 4, .none⟩)), isV (.agg PY), isV (.pointer (some ⟨w.heap.size, 0, .none⟩)), isV (.agg PX), isV (.agg U1), isV (.pointer (some ⟨w.heap.size + 1, 4, .none⟩)), isV (.agg QY), isV (.pointer (some ⟨w.heap.size + 1, 0, .none⟩)), isV (.agg QX), isV (.agg U2), fun v X => IsEl X v [u1, u2], isV (.agg Aa), Fresh w1.heap.size (.cells Z4 126 (0, 0))] ?t35 ?r35 (hk := ?keep)
 case keep => exact ⟨Keep.isV _, Keep.isV _, Keep.isV _, Keep.isV _, Keep.isV _, Keep.isV _, Keep.isV _, Keep.isV _, Keep.isV _, Keep.isV _, fun _ _ _ h k => IsEl.below h k, Keep.isV _, Fresh.keep, trivial⟩
 case' t35 => refine ⟨?_, ?_, ?_, ?_, ?_, ?_, ?_, ?_, ?_, ?_, ?_, ?_, ?_, trivial⟩ <;> intro ev X hT hb hk hf
 ·exact OpOk.s (fV ev 2 (.pointer (some ⟨w.heap.size, 0, .none⟩)) hk.1) hb
 ·exact OpOk.lp (fX ev 13 hf.1) (rowPart (on_blk_mul (H1.out.below hT).right.right) HpPP_4.out) hu HsPY.out
 ·exact OpOk.s (fV ev 2 (.pointer (some ⟨w.heap.size, 0, .none⟩)) hk.1) hb
 ·exact OpOk.lp (fX ev 15 hf.1) (rowPart (on_blk_mul (H1.out.below hT).right.right) HpPP_0.out) hu HsPX.out
 ·exact OpOk.c2 (fX ev 14 hf.1) (fX ev 16 hf.2.1) hb (hs1.out X (hT0.out.below hT).f)
 ·exact OpOk.s (fV ev 3 (.pointer (some ⟨w.heap.size + 1, 0, .none⟩)) hk.1) hb
 ·exact OpOk.lp (fX ev 18 hf.1) (rowPart (on_blk_mul (H1.out.below hT).right) HpQQ_4.out) hu HsQY.out
 ·exact OpOk.s (fV ev 3 (.pointer (some ⟨w.heap.size + 1, 0, .none⟩)) hk.1) hb
 ·exact OpOk.lp (fX ev 20 hf.1) (rowPart (on_blk_mul (H1.out.below hT).right) HpQQ_0.out) hu HsQX.out
 ·exact OpOk.c2 (fX ev 19 hf.1) (fX ev 21 hf.2.1) hb (hs2.out X (hT0.out.below hT).f)
 ·exact OpOk.run (v := .slice (some ⟨X.heap.size, 0, .none⟩) 2 2) (W' := X.alloc (.cells #[lv (limb u1 0), lv (limb u1 1), lv (limb u1 2), lv (limb u1 3), lv (limb u2 0), lv (limb u2 1), lv (limb u2 2), lv (limb u2 3)] 126)) (by simp [execOp, fX ev 17 hf.1, fX ev 22 hf.2.1, hb_u1_u2.out X]) ⟨IsEl.two (heap_alloc_new X _), (Below.refl X.heap.size X).alloc (Nat.le_refl _) _⟩
 ·have e0 : IsEl X (ev (.tmp 23)) [u1, u2] := hf.1
  exact OpOk.c0 hb (hm1.out _ X e0 (hT0.out.below hT).f)
 ·exact OpOk.al hT.size (by simp [execOp, hzE, go_sem])
 intro w2 hX
 rintro _ rfl _ rfl _ rfl _ rfl _ rfl _ rfl _ rfl _ rfl _ rfl _ rfl _ - _ rfl _ ⟨g5, rfl, hgg5, hcg5⟩
 have H2 := hide (on_fresh H1.out hX hgg5 hcg5)
 have S2 := hide (S1.out.trans (Str.below hX))
 clear hX H1 S1 hgg5 hcg5
 clear hT0
 go_wp2
 refine Rest.done ?_
 have H3 := hide (st0 H2.out (cs := Aa))
 have S3 := hide (S2.out.setRow (g5) Aa)
 have gW := on_blk_mul H2.out
 go_wp2_with (first
  | (refine wS gW HsAa HzAa HoAa ?_))
 refine hK2.out _ _ ?_
 clear hK2 K2
 generalize w2.setRow (g5) Aa = w3 at *
 clear gW H2 S2
 refine wp_seq_h fun K3 hK3 => ?_
 have hT0 := hide (hTab.out.below (all_below H3.out.right.right.right.right S3.out))
 refine wp_tail 15 [isV (.pointer (some ⟨w.heap.size, 4, .none⟩)), isV (.agg PY), isV (.pointer (some ⟨w.heap.size, 0, .none⟩)), isV (.agg PX), fun v X => IsEl X v [py, px], isV (.agg U3), isV (.pointer (some ⟨w.heap.size + 1, 4, .none⟩)), isV (.agg QY), isV (.pointer (some ⟨w.heap.size + 1, 0, .none⟩)), isV (.agg QX), fun v X => IsEl X v [qy, qx], isV (.agg U4), fun v X => IsEl X v [u3, u4], isV (.agg Bb), Fresh w3.heap.size (.cells Z4 126 (0, 0))] ?t36 ?r36 (hk := ?keep)
 case keep => exact ⟨Keep.isV _, Keep.isV _, Keep.isV _, Keep.isV _, fun _ _ _ h k => IsEl.below h k, Keep.isV _, Keep.isV _, Keep.isV _, Keep.isV _, Keep.isV _, fun _ _ _ h k => IsEl.below h k, Keep.isV _, fun _ _ _ h k => IsEl.below h k, Keep.isV _, Fresh.keep, trivial⟩
 case' t36 => refine ⟨?_, ?_, ?_, ?_, ?_, ?_, ?_, ?_, ?_, ?_, ?_, ?_, ?_, ?_, ?_, trivial⟩ <;> intro ev X hT hb hk hf
 ·exact OpOk.s (fV ev 2 (.pointer (some ⟨w.heap.size, 0, .none⟩)) hk.1) hb
 ·exact OpOk.lp (fX ev 25 hf.1) (rowPart (on_blk_mul (H3.out.below hT).right.right.right) HpPP_4.out) hu HsPY.out
 ·exact OpOk.s (fV ev 2 (.pointer (some ⟨w.heap.size, 0, .none⟩)) hk.1) hb
 ·exact OpOk.lp (fX ev 27 hf.1) (rowPart (on_blk_mul (H3.out.below hT).right.right.right) HpPP_0.out) hu HsPX.out
 ·exact OpOk.run (v := .slice (some ⟨X.heap.size, 0, .none⟩) 2 2) (W' := X.alloc (.cells #[lv (limb py 0), lv (limb py 1), lv (limb py 2), lv (limb py 3), lv (limb px 0), lv (limb px 1), lv (limb px 2), lv (limb px 3)] 126)) (by simp [execOp, fX ev 26 hf.1, fX ev 28 hf.2.1, hb_py_px.out X]) ⟨IsEl.two (heap_alloc_new X _), (Below.refl X.heap.size X).alloc (Nat.le_refl _) _⟩
 ·have e0 : IsEl X (ev (.tmp 29)) [py, px] := hf.1
  exact OpOk.c0 hb (ha1.out _ X e0 (hT0.out.below hT).f)
 ·exact OpOk.s (fV ev 3 (.pointer (some ⟨w.heap.size + 1, 0, .none⟩)) hk.1) hb
 ·exact OpOk.lp (fX ev 31 hf.1) (rowPart (on_blk_mul (H3.out.below hT).right.right) HpQQ_4.out) hu HsQY.out
 ·exact OpOk.s (fV ev 3 (.pointer (some ⟨w.heap.size + 1, 0, .none⟩)) hk.1) hb
 ·exact OpOk.lp (fX ev 33 hf.1) (rowPart (on_blk_mul (H3.out.below hT).right.right) HpQQ_0.out) hu HsQX.out
 ·exact OpOk.run (v := .slice (some ⟨X.heap.size, 0, .none⟩) 2 2) (W' := X.alloc (.cells #[lv (limb qy 0), lv (limb qy 1), lv (limb qy 2), lv (limb qy 3), lv (limb qx 0), lv (limb qx 1), lv (limb qx 2), lv (limb qx 3)] 126)) (by simp [execOp, fX ev 32 hf.1, fX ev 34 hf.2.1, hb_qy_qx.out X]) ⟨IsEl.two (heap_alloc_new X _), (Below.refl X.heap.size X).alloc (Nat.le_refl _) _⟩
 ·have e0 : IsEl X (ev (.tmp 35)) [qy, qx] := hf.1
  exact OpOk.c0 hb (ha2.out _ X e0 (hT0.out.below hT).f)
 ·exact OpOk.run (v := .slice (some ⟨X.heap.size, 0, .none⟩) 2 2) (W' := X.alloc (.cells #[lv (limb u3 0), lv (limb u3 1), lv (limb u3 2), lv (limb u3 3), lv (limb u4 0), lv (limb u4 1), lv (limb u4 2), lv (limb u4 3)] 126)) (by simp [execOp, fX ev 30 hf.1, fX ev 36 hf.2.1, hb_u3_u4.out X]) ⟨IsEl.two (heap_alloc_new X _), (Below.refl X.heap.size X).alloc (Nat.le_refl _) _⟩
 ·have e0 : IsEl X (ev (.tmp 37)) [u3, u4] := hf.1
  exact OpOk.c0 hb (hm2.out _ X e0 (hT0.out.below hT).f)
 ·exact OpOk.al hT.size (by simp [execOp, hzE, go_sem])
 intro w4 hX
 rintro _ rfl _ rfl _ rfl _ rfl _ - _ rfl _ rfl _ rfl _ rfl _ rfl _ - _ rfl _ - _ rfl _ ⟨g6, rfl, hgg6, hcg6⟩
 have H4 := hide (on_fresh H3.out hX hgg6 hcg6)
 have S4 := hide (S3.out.trans (Str.below hX))
 clear hX H3 S3 hgg6 hcg6
 clear hT0
 go_wp2
 refine Rest.done ?_
 have H5 := hide (st0 H4.out (cs := Bb))
 have S5 := hide (S4.out.setRow (g6) Bb)
 have gW := on_blk_mul H4.out
 go_wp2_with (first
  | (refine wS gW HsBb HzBb HoBb ?_))
 refine hK3.out _ _ ?_
 clear hK3 K3
 generalize w4.setRow (g6) Bb = w5 at *
 clear gW H4 S4
 refine wp_seq_h fun K4 hK4 => ?_
 have hT0 := hide (hTab.out.below (all_below H5.out.right.right.right.right.right S5.out))
 refine sQ 8 [isV (.pointer (some ⟨w.heap.size, 12, .none⟩)), isV (.agg PT), isV (.agg D2), isV (.pointer (some ⟨w.heap.size + 1, 12, .none⟩)), isV (.agg QT), fun v X => IsEl X v [pt, d2, qt], isV (.agg Cc), Fresh w5.heap.size (.cells Z4 126 (0, 0))] ?t37 ?r37 (hk := ?keep)
 case keep => exact ⟨Keep.isV _, Keep.isV _, Keep.isV _, Keep.isV _, Keep.isV _, fun _ _ _ h k => IsEl.below h k, Keep.isV _, Fresh.keep, trivial⟩
 case' t37 => refine ⟨?_, ?_, ?_, ?_, ?_, ?_, ?_, ?_, trivial⟩ <;> intro ev X hT hb hk hf
 ·exact OpOk.s (fV ev 2 (.pointer (some ⟨w.heap.size, 0, .none⟩)) hk.1) hb
 ·exact OpOk.lp (fX ev 39 hf.1) (rowPart (on_blk_mul (H5.out.below hT).right.right.right.right) HpPP_12.out) hu HsPT.out
 ·exact OpOk.lp (hb.2.2 _) (fun j v hv => Hdd.out X (hT0.out.below hT) j v hv) hu HsD2.out
 ·exact OpOk.s (fV ev 3 (.pointer (some ⟨w.heap.size + 1, 0, .none⟩)) hk.1) hb
 ·exact OpOk.lp (fX ev 42 hf.1) (rowPart (on_blk_mul (H5.out.below hT).right.right.right) HpQQ_12.out) hu HsQT.out
 ·exact OpOk.run (v := .slice (some ⟨X.heap.size, 0, .none⟩) 3 3) (W' := X.alloc (.cells #[lv (limb pt 0), lv (limb pt 1), lv (limb pt 2), lv (limb pt 3), lv (limb d2 0), lv (limb d2 1), lv (limb d2 2), lv (limb d2 3), lv (limb qt 0), lv (limb qt 1), lv (limb qt 2), lv (limb qt 3)] 126)) (by simp [execOp, fX ev 40 hf.1, fX ev 41 hf.2.1, fX ev 43 hf.2.2.1, hb_c3.out X]) ⟨IsEl.three (heap_alloc_new X _), (Below.refl X.heap.size X).alloc (Nat.le_refl _) _⟩
 ·have e0 : IsEl X (ev (.tmp 44)) [pt, d2, qt] := hf.1
  exact OpOk.c0 hb (hm3.out _ X e0 (hT0.out.below hT).f)
 ·exact OpOk.al hT.size (by simp [execOp, hzE, go_sem])
 intro w6 hX
 rintro _ rfl _ rfl _ rfl _ rfl _ rfl _ - _ rfl _ ⟨g7, rfl, hgg7, hcg7⟩
 have H6 := hide (on_fresh H5.out hX hgg7 hcg7)
 have S6 := hide (S5.out.trans (Str.below hX))
 clear hX H5 S5 hgg7 hcg7
 clear hT0
 go_wp2
 refine Rest.done ?_
 have H7 := hide (st0 H6.out (cs := Cc))
 have S7 := hide (S6.out.setRow (g7) Cc)
 have gW := on_blk_mul H6.out
 go_wp2_with (first
  | (refine wS gW HsCc HzCc HoCc ?_))
 refine hK4.out _ _ ?_
 clear hK4 K4
 generalize w6.setRow (g7) Cc = w7 at *
 clear gW H6 S6
 refine wp_seq_h fun K5 hK5 => ?_
 have hT0 := hide (hTab.out.below (all_below H7.out.right.right.right.right.right.right S7.out))
 refine sQ 7 [isV (.pointer (some ⟨w.heap.size, 8, .none⟩)), isV (.agg PZ), isV (.pointer (some ⟨w.heap.size + 1, 8, .none⟩)), isV (.agg QZ), fun v X => IsEl X v [pz, qz], isV (.agg Z0), Fresh w7.heap.size (.cells Z4 126 (0, 0))] ?t38 ?r38 (hk := ?keep)
 case keep => exact ⟨Keep.isV _, Keep.isV _, Keep.isV _, Keep.isV _, fun _ _ _ h k => IsEl.below h k, Keep.isV _, Fresh.keep, trivial⟩
 case' t38 => refine ⟨?_, ?_, ?_, ?_, ?_, ?_, ?_, trivial⟩ <;> intro ev X hT hb hk hf
 ·exact OpOk.s (fV ev 2 (.pointer (some ⟨w.heap.size, 0, .none⟩)) hk.1) hb
 ·exact OpOk.lp (fX ev 46 hf.1) (rowPart (on_blk_mul (H7.out.below hT).right.right.right.right.right) HpPP_8.out) hu HsPZ.out
 ·exact OpOk.s (fV ev 3 (.pointer (some ⟨w.heap.size + 1, 0, .none⟩)) hk.1) hb
 ·exact OpOk.lp (fX ev 48 hf.1) (rowPart (on_blk_mul (H7.out.below hT).right.right.right.right) HpQQ_8.out) hu HsQZ.out
 ·exact OpOk.run (v := .slice (some ⟨X.heap.size, 0, .none⟩) 2 2) (W' := X.alloc (.cells #[lv (limb pz 0), lv (limb pz 1), lv (limb pz 2), lv (limb pz 3), lv (limb qz 0), lv (limb qz 1), lv (limb qz 2), lv (limb qz 3)] 126)) (by simp [execOp, fX ev 47 hf.1, fX ev 49 hf.2.1, hb_pz_qz.out X]) ⟨IsEl.two (heap_alloc_new X _), (Below.refl X.heap.size X).alloc (Nat.le_refl _) _⟩
 ·have e0 : IsEl X (ev (.tmp 50)) [pz, qz] := hf.1
  exact OpOk.c0 hb (hm4.out _ X e0 (hT0.out.below hT).f)
 ·exact OpOk.al hT.size (by simp [execOp, hzE, go_sem])
 intro w8 hX
 rintro _ rfl _ rfl _ rfl _ rfl _ - _ rfl _ ⟨g8, rfl, hgg8, hcg8⟩
 have H8 := hide (on_fresh H7.out hX hgg8 hcg8)
 have S8 := hide (S7.out.trans (Str.below hX))
 clear hX H7 S7 hgg8 hcg8
 clear hT0
 go_wp2
 refine Rest.done ?_
 have H9 := hide (st0 H8.out (cs := Z0))
 have S9 := hide (S8.out.setRow (g8) Z0)
 have gW := on_blk_mul H8.out
 go_wp2_with (first
  | (refine wS gW HsZ0 HzZ0 HoZ0 ?_))
 refine hK5.out _ _ ?_
 clear hK5 K5
 generalize w8.setRow (g8) Z0 = w9 at *
 clear gW H8 S8
 refine wp_seq_h fun K6 hK6 => ?_
 have hT0 := hide (hTab.out.below (all_below H9.out.right.right.right.right.right.right.right S9.out))
 refine sQ 4 [isV (.agg Z0), isV (.agg Z0), fun v X => IsEl X v [z0, z0], isV (.agg Zz)] ?t39 ?r39 (hk := ?keep)
 case keep => exact ⟨Keep.isV _, Keep.isV _, fun _ _ _ h k => IsEl.below h k, Keep.isV _, trivial⟩
 case' t39 => refine ⟨?_, ?_, ?_, ?_, trivial⟩ <;> intro ev X hT hb hk hf
 ·exact OpOk.l (x := .tmp 8) hk.1 (on_blk_mul (H9.out.below hT)) hu HsZ0.out
 ·exact OpOk.l (x := .tmp 8) hk.1 (on_blk_mul (H9.out.below hT)) hu HsZ0.out
 ·exact OpOk.run (v := .slice (some ⟨X.heap.size, 0, .none⟩) 2 2) (W' := X.alloc (.cells #[lv (limb z0 0), lv (limb z0 1), lv (limb z0 2), lv (limb z0 3), lv (limb z0 0), lv (limb z0 1), lv (limb z0 2), lv (limb z0 3)] 126)) (by simp [execOp, fX ev 52 hf.1, fX ev 53 hf.2.1, hb_z0_z0.out X]) ⟨IsEl.two (heap_alloc_new X _), (Below.refl X.heap.size X).alloc (Nat.le_refl _) _⟩
 ·have e0 : IsEl X (ev (.tmp 54)) [z0, z0] := hf.1
  exact OpOk.c0 hb (ha3.out _ X e0 (hT0.out.below hT).f)
 intro w10 hX
 rintro _ rfl _ rfl _ - _ rfl
 obtain ⟨H10, S10⟩ := nx H9.out S9.out hX
 clear hX H9 S9
 clear hT0
 go_wp2
 refine Rest.done ?_
 have H11 := hide (st0 H10.out (cs := Zz))
 have S11 := hide (S10.out.setRow (g8) Zz)
 have gW := on_blk_mul H10.out
 go_wp2_with (first
  | (refine wS gW HsZz.out (HzZ0.out.symm.trans HzZz.out) HoZz.out ?_))
 refine hK6.out _ _ ?_
 clear hK6 K6
 generalize w10.setRow (g8) Zz = w11 at *
 clear gW H10 S10
 refine wp_seq_h fun K7 hK7 => ?_
 refine Multi2.wp_region_multi [8, 9, 12, 13, 14, 15, 16, 17, 18, 19, 20, 21] [8, 12, 14, 15, 16, 17] [18, 19, 20, 21] [isV (.agg Bb), isV (.agg Aa), isV (.agg Ee), isV (.agg Zz), isV (.agg Cc), isV (.agg Ff), isV (.agg Zz), isV (.agg Cc), (fun _ _ => True), isV (.agg Gg), isV (.agg Bb), isV (.agg Aa), (fun _ _ => True), isV (.agg Hh), (fun _ _ => True), (fun _ _ => True), (fun _ _ => True), (fun _ _ => True), (fun _ _ => True), (fun _ _ => True), (fun _ _ => True), (fun _ _ => True)]
  (by kernel_rfl) (by kernel_rfl) (by kernel_rfl) ⟨rfl, rfl, rfl, rfl, trivial⟩ (fun f s X => (Multi2.opt (f 14) (Multi2.bv (s 14) (.cells (if f 18 = true then Ee else Z4) 126 (0, 0))) * (Multi2.opt (f 15) (Multi2.bv (s 15) (.cells (if f 19 = true then Ff else Z4) 126 (0, 0))) * (Multi2.opt (f 16) (Multi2.bv (s 16) (.cells (if f 20 = true then Gg else Z4) 126 (0, 0))) * (Multi2.opt (f 17) (Multi2.bv (s 17) (.cells (if f 21 = true then Hh else Z4) 126 (0, 0))) * ((blk (g8) (.cells Zz 126 (0, 0)) * (blk (g7) (.cells Cc 126 (0, 0)) * (blk (g6) (.cells Bb 126 (0, 0)) * (blk (g5) (.cells Aa 126 (0, 0)) * (blk (w.heap.size + 1 + 1) (.cells Zs 151 (0, 0)) * (blk (w.heap.size + 1) (.cells QQ 151 (0, 0)) * (blk (w.heap.size) (.cells PP 151 (0, 0)) * all w)))))))))))).on X ∧ Str w X ∧ (f 8 = true → f 9 = false → f 18 = false → f 19 = false → f 20 = false → f 21 = false → IsEl X (s 8) [zz, c]) ∧ (f 12 = true → f 13 = false → f 18 = false → f 19 = false → f 20 = false → f 21 = false → IsEl X (s 12) [b, a])) (fun _ => ⟨on_emp_mul.2 (on_emp_mul.2 (on_emp_mul.2 (on_emp_mul.2 (SP.on.drew H11.out)))), Str.drew S11.out, (by intro h; cases h), (by intro h; cases h)⟩) (fun f s a b h st => ⟨h.1.below st, h.2.1.trans (Str.below st), (by intro h3 h4 hs18 hs19 hs20 hs21; exact (h.2.2.1 h3 h4 hs18 hs19 hs20 hs21).below st), (by intro h3 h4 hs18 hs19 hs20 hs21; exact (h.2.2.2 h3 h4 hs18 hs19 hs20 hs21).below st)⟩) (fun f g s t X h h9 hI => by
 have e8 := h 8 rfl
 have e9 := h 9 rfl
 have e12 := h 12 rfl
 have e13 := h 13 rfl
 have e14 := h 14 rfl
 have e15 := h 15 rfl
 have e16 := h 16 rfl
 have e17 := h 17 rfl
 have e18 := h 18 rfl
 have e19 := h 19 rfl
 have e20 := h 20 rfl
 have e21 := h 21 rfl
 have i8 := h9 8 rfl
 have i12 := h9 12 rfl
 have i14 := h9 14 rfl
 have i15 := h9 15 rfl
 have i16 := h9 16 rfl
 have i17 := h9 17 rfl
 rw [← e8, ← e9, ← e12, ← e13, ← e14, ← e15, ← e16, ← e17, ← e18, ← e19, ← e20, ← e21]
 refine ⟨?_, hI.2.1, (by intro h3 h4 hs18 hs19 hs20 hs21; first | (rw [← i8 h3]; exact hI.2.2.1 h3 h4 hs18 hs19 hs20 hs21) | (rw [i8 h3]; exact hI.2.2.1 h3 h4 hs18 hs19 hs20 hs21)), (by intro h3 h4 hs18 hs19 hs20 hs21; first | (rw [← i12 h3]; exact hI.2.2.2 h3 h4 hs18 hs19 hs20 hs21) | (rw [i12 h3]; exact hI.2.2.2 h3 h4 hs18 hs19 hs20 hs21))⟩
 have := hI.1
 clear i8 i12 e8 e9 e12 e13 e14 e15 e16 e17 e18 e19 e20 e21 h9 h hI
 revert this i14 i15 i16 i17
 cases f 14 <;> cases f 15 <;> cases f 16 <;> cases f 17 <;> intro i14 i15 i16 i17 <;> simp_all [Multi2.opt]) kP ?todo ?r40 (by decide) (by decide)
 case todo =>
  refine ⟨?_, ?_, ?_, ?_, ?_, ?_, ?_, ?_, ?_, ?_, ?_, ?_, ?_, ?_, ?_, ?_, ?_, ?_, ?_, ?_, ?_, ?_, trivial⟩
  ·intro f hf0 hw hn ev X hT hb hk hf
   have e0 : ev (.tmp 6) = .pointer (some ⟨g6, 0, .none⟩) := fP hk.1 (by kernel_rfl)
   exact OpOk.load_row _ _ rfl _ e0 _ Bb (0, 0) _ (on_blk_mul hT.1.right.right.right.right.right.right) hu rfl HsBb.out (Multi2.ended_stay rfl rfl (Stay.refl _))
  ·intro f hf0 hw hn ev X hT hb hk hf
   have e0 : ev (.tmp 5) = .pointer (some ⟨g5, 0, .none⟩) := fP hk.1 (by kernel_rfl)
   exact OpOk.load_row _ _ rfl _ e0 _ Aa (0, 0) _ (on_blk_mul hT.1.right.right.right.right.right.right.right) hu rfl HsAa.out (Multi2.ended_stay rfl rfl (Stay.refl _))
  ·intro f hf0 hw hn ev X hT hb hk hf
   refine OpOk.enters (by simp [execOp, resolve, invoke, fX ev 56 hf.1, fX ev 57 hf.2.1, hb.1, hb.2.1, go_sem]) ((hs3.out X (hTab.out.below (all_below hT.1.right.right.right.right.right.right.right.right.right.right.right hT.2.1)).f).mono ?_)
   rintro e _ ⟨rfl, hB⟩
   exact ⟨_, rfl, Multi2.ended_stay rfl rfl hB⟩
  ·intro f hf0 hw hn ev X hT hb hk hf
   have e0 : ev (.tmp 8) = .pointer (some ⟨g8, 0, .none⟩) := fP hk.1 (by kernel_rfl)
   exact OpOk.load_row _ _ rfl _ e0 _ Zz (0, 0) _ (on_blk_mul hT.1.right.right.right.right) hu rfl HsZz.out (Multi2.ended_stay rfl rfl (Stay.refl _))
  ·intro f hf0 hw hn ev X hT hb hk hf
   have e0 : ev (.tmp 7) = .pointer (some ⟨g7, 0, .none⟩) := fP hk.1 (by kernel_rfl)
   exact OpOk.load_row _ _ rfl _ e0 _ Cc (0, 0) _ (on_blk_mul hT.1.right.right.right.right.right) hu rfl HsCc.out (Multi2.ended_stay rfl rfl (Stay.refl _))
  ·intro f hf0 hw hn ev X hT hb hk hf
   refine OpOk.enters (by simp [execOp, resolve, invoke, fX ev 59 hf.1, fX ev 60 hf.2.1, hb.1, hb.2.1, go_sem]) ((hs4.out X (hTab.out.below (all_below hT.1.right.right.right.right.right.right.right.right.right.right.right hT.2.1)).f).mono ?_)
   rintro e _ ⟨rfl, hB⟩
   exact ⟨_, rfl, Multi2.ended_stay rfl rfl hB⟩
  ·intro f hf0 hw hn ev X hT hb hk hf
   have e0 : ev (.tmp 8) = .pointer (some ⟨g8, 0, .none⟩) := fP hk.1 (by kernel_rfl)
   exact OpOk.load_row _ _ rfl _ e0 _ Zz (0, 0) _ (on_blk_mul hT.1.right.right.right.right) hu rfl HsZz.out (Multi2.ended_stay rfl rfl (Stay.refl _))
  ·intro f hf0 hw hn ev X hT hb hk hf
   have e0 : ev (.tmp 7) = .pointer (some ⟨g7, 0, .none⟩) := fP hk.1 (by kernel_rfl)
   exact OpOk.load_row _ _ rfl _ e0 _ Cc (0, 0) _ (on_blk_mul hT.1.right.right.right.right.right) hu rfl HsCc.out (Multi2.ended_stay rfl rfl (Stay.refl _))
  ·intro f hf0 hw hn ev X hT hb hk hf
   exact OpOk.run (v := .slice (some ⟨X.heap.size, 0, .none⟩) 2 2) (W' := X.alloc (.cells #[lv (limb zz 0), lv (limb zz 1), lv (limb zz 2), lv (limb zz 3), lv (limb c 0), lv (limb c 1), lv (limb c 2), lv (limb c 3)] 126)) (by simp [execOp, fX ev 62 hf.1, fX ev 63 hf.2.1, hb_zz_c.out X]) (Multi2.ended_turn rfl trivial ⟨hT.1.below ((Below.refl X.heap.size X).alloc (Nat.le_refl _) _), hT.2.1.alloc _, (by intro h3 h4 hs18 hs19 hs20 hs21; exact IsEl.two (heap_alloc_new X _)), (by intro h3 h4 hs18 hs19 hs20 hs21; exact (hT.2.2.2 h3 h4 hs18 hs19 hs20 hs21).below ((Below.refl X.heap.size X).alloc (Nat.le_refl _) _))⟩ (Multi2.free_keep fR _ _))
  ·intro f hf0 hw hn ev X hT hb hk hf
   have e0 := hf.1
   have eS : IsEl X (ev (.tmp 64)) [zz, c] := hT.2.2.1 (hw 8 (by kernel_rfl)) hf0 (hn 18 (by kernel_rfl)) (hn 19 (by kernel_rfl)) (hn 20 (by kernel_rfl)) (hn 21 (by kernel_rfl))
   refine OpOk.enters (by simp [execOp, resolve, invoke, hb.1, hb.2.1, go_sem]) ((ha4.out _ X eS (hTab.out.below (all_below hT.1.right.right.right.right.right.right.right.right.right.right.right hT.2.1)).f).mono ?_)
   rintro e X2 ⟨rfl, hB⟩
   exact ⟨_, rfl, Multi2.ended_turn rfl rfl ⟨hT.1.below hB, hT.2.1.trans (Str.below hB), (by intro h3 h4 hs18 hs19 hs20 hs21; exact nomatch (show true = false from h4)), (by intro h3 h4 hs18 hs19 hs20 hs21; exact (hT.2.2.2 h3 h4 hs18 hs19 hs20 hs21).below hB)⟩ (Multi2.free_keep fR _ _)⟩
  ·intro f hf0 hw hn ev X hT hb hk hf
   have e0 : ev (.tmp 6) = .pointer (some ⟨g6, 0, .none⟩) := fP hk.1 (by kernel_rfl)
   exact OpOk.load_row _ _ rfl _ e0 _ Bb (0, 0) _ (on_blk_mul hT.1.right.right.right.right.right.right) hu rfl HsBb.out (Multi2.ended_stay rfl rfl (Stay.refl _))
  ·intro f hf0 hw hn ev X hT hb hk hf
   have e0 : ev (.tmp 5) = .pointer (some ⟨g5, 0, .none⟩) := fP hk.1 (by kernel_rfl)
   exact OpOk.load_row _ _ rfl _ e0 _ Aa (0, 0) _ (on_blk_mul hT.1.right.right.right.right.right.right.right) hu rfl HsAa.out (Multi2.ended_stay rfl rfl (Stay.refl _))
  ·intro f hf0 hw hn ev X hT hb hk hf
   exact OpOk.run (v := .slice (some ⟨X.heap.size, 0, .none⟩) 2 2) (W' := X.alloc (.cells #[lv (limb b 0), lv (limb b 1), lv (limb b 2), lv (limb b 3), lv (limb a 0), lv (limb a 1), lv (limb a 2), lv (limb a 3)] 126)) (by simp [execOp, fX ev 66 hf.1, fX ev 67 hf.2.1, hb_b_a.out X]) (Multi2.ended_turn rfl trivial ⟨hT.1.below ((Below.refl X.heap.size X).alloc (Nat.le_refl _) _), hT.2.1.alloc _, (by intro h3 h4 hs18 hs19 hs20 hs21; exact (hT.2.2.1 h3 h4 hs18 hs19 hs20 hs21).below ((Below.refl X.heap.size X).alloc (Nat.le_refl _) _)), (by intro h3 h4 hs18 hs19 hs20 hs21; exact IsEl.two (heap_alloc_new X _))⟩ (Multi2.free_keep fR _ _))
  ·intro f hf0 hw hn ev X hT hb hk hf
   have e0 := hf.1
   have eS : IsEl X (ev (.tmp 68)) [b, a] := hT.2.2.2 (hw 12 (by kernel_rfl)) hf0 (hn 18 (by kernel_rfl)) (hn 19 (by kernel_rfl)) (hn 20 (by kernel_rfl)) (hn 21 (by kernel_rfl))
   refine OpOk.enters (by simp [execOp, resolve, invoke, hb.1, hb.2.1, go_sem]) ((ha5.out _ X eS (hTab.out.below (all_below hT.1.right.right.right.right.right.right.right.right.right.right.right hT.2.1)).f).mono ?_)
   rintro e X2 ⟨rfl, hB⟩
   exact ⟨_, rfl, Multi2.ended_turn rfl rfl ⟨hT.1.below hB, hT.2.1.trans (Str.below hB), (by intro h3 h4 hs18 hs19 hs20 hs21; exact (hT.2.2.1 h3 h4 hs18 hs19 hs20 hs21).below hB), (by intro h3 h4 hs18 hs19 hs20 hs21; exact nomatch (show true = false from h4))⟩ (Multi2.free_keep fR _ _)⟩
  ·intro f hf0 hw hn ev X hT hb hk hf
   have fs : f 18 = false := hn 18 (by kernel_rfl)
   have hX := hT.1
   rw [hf0, Multi2.opt_false] at hX
   have hX2 := (on_emp_mul.1 hX).alloc (.cells Z4 126 (0, 0))
   exact OpOk.run (v := .pointer (some ⟨X.heap.size, 0, .none⟩)) (W' := X.alloc (.cells Z4 126)) (by simp [execOp, hzE, go_sem]) (Multi2.ended_turn rfl trivial ⟨by
    show (Multi2.opt true (Multi2.bv (.pointer (some ⟨X.heap.size, 0, .none⟩)) (.cells (if f 18 = true then Ee else Z4) 126 (0, 0))) * _).on _
    rw [fs]
    exact Multi2.blk_bv hX2, hT.2.1.alloc _, (by intro h3 h4 hs18 hs19 hs20 hs21; exact (hT.2.2.1 h3 h4 hs18 hs19 hs20 hs21).below ((Below.refl X.heap.size X).alloc (Nat.le_refl _) _)), (by intro h3 h4 hs18 hs19 hs20 hs21; exact (hT.2.2.2 h3 h4 hs18 hs19 hs20 hs21).below ((Below.refl X.heap.size X).alloc (Nat.le_refl _) _))⟩ (Multi2.free_keep fR _ _))
  ·intro f hf0 hw hn ev X hT hb hk hf
   have fs : f 19 = false := hn 19 (by kernel_rfl)
   have hX := hT.1
   rw [hf0, Multi2.opt_false, star_4_1] at hX
   have hX2 := (on_emp_mul.1 hX).alloc (.cells Z4 126 (0, 0))
   exact OpOk.run (v := .pointer (some ⟨X.heap.size, 0, .none⟩)) (W' := X.alloc (.cells Z4 126)) (by simp [execOp, hzE, go_sem]) (Multi2.ended_turn rfl trivial ⟨by
    show (_ * (Multi2.opt true (Multi2.bv (.pointer (some ⟨X.heap.size, 0, .none⟩)) (.cells (if f 19 = true then Ff else Z4) 126 (0, 0))) * _)).on _
    rw [fs, star_4_1]
    exact Multi2.blk_bv hX2, hT.2.1.alloc _, (by intro h3 h4 hs18 hs19 hs20 hs21; exact (hT.2.2.1 h3 h4 hs18 hs19 hs20 hs21).below ((Below.refl X.heap.size X).alloc (Nat.le_refl _) _)), (by intro h3 h4 hs18 hs19 hs20 hs21; exact (hT.2.2.2 h3 h4 hs18 hs19 hs20 hs21).below ((Below.refl X.heap.size X).alloc (Nat.le_refl _) _))⟩ (Multi2.free_keep fR _ _))
  ·intro f hf0 hw hn ev X hT hb hk hf
   have fs : f 20 = false := hn 20 (by kernel_rfl)
   have hX := hT.1
   rw [hf0, Multi2.opt_false, star_4_2] at hX
   have hX2 := (on_emp_mul.1 hX).alloc (.cells Z4 126 (0, 0))
   exact OpOk.run (v := .pointer (some ⟨X.heap.size, 0, .none⟩)) (W' := X.alloc (.cells Z4 126)) (by simp [execOp, hzE, go_sem]) (Multi2.ended_turn rfl trivial ⟨by
    show (_ * (_ * (Multi2.opt true (Multi2.bv (.pointer (some ⟨X.heap.size, 0, .none⟩)) (.cells (if f 20 = true then Gg else Z4) 126 (0, 0))) * _))).on _
    rw [fs, star_4_2]
    exact Multi2.blk_bv hX2, hT.2.1.alloc _, (by intro h3 h4 hs18 hs19 hs20 hs21; exact (hT.2.2.1 h3 h4 hs18 hs19 hs20 hs21).below ((Below.refl X.heap.size X).alloc (Nat.le_refl _) _)), (by intro h3 h4 hs18 hs19 hs20 hs21; exact (hT.2.2.2 h3 h4 hs18 hs19 hs20 hs21).below ((Below.refl X.heap.size X).alloc (Nat.le_refl _) _))⟩ (Multi2.free_keep fR _ _))
  ·intro f hf0 hw hn ev X hT hb hk hf
   have fs : f 21 = false := hn 21 (by kernel_rfl)
   have hX := hT.1
   rw [hf0, Multi2.opt_false, star_4_3] at hX
   have hX2 := (on_emp_mul.1 hX).alloc (.cells Z4 126 (0, 0))
   exact OpOk.run (v := .pointer (some ⟨X.heap.size, 0, .none⟩)) (W' := X.alloc (.cells Z4 126)) (by simp [execOp, hzE, go_sem]) (Multi2.ended_turn rfl trivial ⟨by
    show (_ * (_ * (_ * (Multi2.opt true (Multi2.bv (.pointer (some ⟨X.heap.size, 0, .none⟩)) (.cells (if f 21 = true then Hh else Z4) 126 (0, 0))) * _)))).on _
    rw [fs, star_4_3]
    exact Multi2.blk_bv hX2, hT.2.1.alloc _, (by intro h3 h4 hs18 hs19 hs20 hs21; exact (hT.2.2.1 h3 h4 hs18 hs19 hs20 hs21).below ((Below.refl X.heap.size X).alloc (Nat.le_refl _) _)), (by intro h3 h4 hs18 hs19 hs20 hs21; exact (hT.2.2.2 h3 h4 hs18 hs19 hs20 hs21).below ((Below.refl X.heap.size X).alloc (Nat.le_refl _) _))⟩ (Multi2.free_keep fR _ _))
  ·intro f hf0 hw hn ev X hT hb hk hf
   have e0 := hf.1
   have e1 := fX ev 58 hf.2.1
   have fa : f 14 = true := hw 14 (by kernel_rfl)
   have hX := hT.1
   rw [fa, hf0] at hX
   have hX' : (Multi2.bv (ev (.tmp 9)) (.cells Z4 126 (0, 0)) * _).on X := hX
   obtain ⟨g, hg, hX2⟩ := Multi2.bv_blk hX'
   exact OpOk.store_agg _ _ _ rfl g Ee hg e1 _ Z4 hX2 HsEe.out HzEe.out HoEe.out (fun h3 => Multi2.ended_turn rfl trivial ⟨by
    show (Multi2.opt (f 14) (Multi2.bv (ev (.tmp 9)) (.cells Ee 126 (0, 0))) * _).on _
    rw [fa, hg]
    exact Multi2.blk_bv h3, hT.2.1.setRow _ _, (by intro h3 h4 hs18 hs19 hs20 hs21; exact nomatch (show true = false from hs18)), (by intro h3 h4 hs18 hs19 hs20 hs21; exact nomatch (show true = false from hs18))⟩ (Multi2.free_keep fR _ _))
  ·intro f hf0 hw hn ev X hT hb hk hf
   have e0 := hf.1
   have e1 := fX ev 61 hf.2.1
   have fa : f 15 = true := hw 15 (by kernel_rfl)
   have hX := hT.1
   rw [fa, hf0, star_4_1] at hX
   have hX' : (Multi2.bv (ev (.tmp 10)) (.cells Z4 126 (0, 0)) * _).on X := hX
   obtain ⟨g, hg, hX2⟩ := Multi2.bv_blk hX'
   exact OpOk.store_agg _ _ _ rfl g Ff hg e1 _ Z4 hX2 HsFf.out HzFf.out HoFf.out (fun h3 => Multi2.ended_turn rfl trivial ⟨by
    show (_ * (Multi2.opt (f 15) (Multi2.bv (ev (.tmp 10)) (.cells Ff 126 (0, 0))) * _)).on _
    rw [fa, hg, star_4_1]
    exact Multi2.blk_bv h3, hT.2.1.setRow _ _, (by intro h3 h4 hs18 hs19 hs20 hs21; exact nomatch (show true = false from hs19)), (by intro h3 h4 hs18 hs19 hs20 hs21; exact nomatch (show true = false from hs19))⟩ (Multi2.free_keep fR _ _))
  ·intro f hf0 hw hn ev X hT hb hk hf
   have e0 := hf.1
   have e1 := fX ev 65 hf.2.1
   have fa : f 16 = true := hw 16 (by kernel_rfl)
   have hX := hT.1
   rw [fa, hf0, star_4_2] at hX
   have hX' : (Multi2.bv (ev (.tmp 11)) (.cells Z4 126 (0, 0)) * _).on X := hX
   obtain ⟨g, hg, hX2⟩ := Multi2.bv_blk hX'
   exact OpOk.store_agg _ _ _ rfl g Gg hg e1 _ Z4 hX2 HsGg.out HzGg.out HoGg.out (fun h3 => Multi2.ended_turn rfl trivial ⟨by
    show (_ * (_ * (Multi2.opt (f 16) (Multi2.bv (ev (.tmp 11)) (.cells Gg 126 (0, 0))) * _))).on _
    rw [fa, hg, star_4_2]
    exact Multi2.blk_bv h3, hT.2.1.setRow _ _, (by intro h3 h4 hs18 hs19 hs20 hs21; exact nomatch (show true = false from hs20)), (by intro h3 h4 hs18 hs19 hs20 hs21; exact nomatch (show true = false from hs20))⟩ (Multi2.free_keep fR _ _))
  intro f hf0 hw hn ev X hT hb hk hf
  have e0 := hf.1
  have e1 := fX ev 69 hf.2.1
  have fa : f 17 = true := hw 17 (by kernel_rfl)
  have hX := hT.1
  rw [fa, hf0, star_4_3] at hX
  have hX' : (Multi2.bv (ev (.tmp 12)) (.cells Z4 126 (0, 0)) * _).on X := hX
  obtain ⟨g, hg, hX2⟩ := Multi2.bv_blk hX'
  exact OpOk.store_agg _ _ _ rfl g Hh hg e1 _ Z4 hX2 HsHh.out HzHh.out HoHh.out (fun h3 => Multi2.ended_turn rfl trivial ⟨by
   show (_ * (_ * (_ * (Multi2.opt (f 17) (Multi2.bv (ev (.tmp 12)) (.cells Hh 126 (0, 0))) * _)))).on _
   rw [fa, hg, star_4_3]
   exact Multi2.blk_bv h3, hT.2.1.setRow _ _, (by intro h3 h4 hs18 hs19 hs20 hs21; exact nomatch (show true = false from hs21)), (by intro h3 h4 hs18 hs19 hs20 hs21; exact nomatch (show true = false from hs21))⟩ (Multi2.free_keep fR _ _))
 intro X s hI
 rintro _ ⟨-, -⟩ _ ⟨-, -⟩ _ ⟨-, -⟩ _ ⟨-, -⟩ _ ⟨-, -⟩ _ ⟨-, -⟩ _ ⟨-, -⟩ _ ⟨-, -⟩ _ ⟨-, -⟩ _ ⟨-, -⟩ _ ⟨-, -⟩ _ ⟨-, -⟩ _ ⟨-, -⟩ _ ⟨-, -⟩ v14 ⟨k14, -⟩ v15 ⟨k15, -⟩ v16 ⟨k16, -⟩ v17 ⟨k17, -⟩ _ - _ - _ - _ -
 obtain ⟨hX, hSX, -⟩ := hI
 have hX0 : ((Multi2.bv (s 14) (.cells Ee 126 (0, 0))) * ((Multi2.bv (s 15) (.cells Ff 126 (0, 0))) * ((Multi2.bv (s 16) (.cells Gg 126 (0, 0))) * ((Multi2.bv (s 17) (.cells Hh 126 (0, 0))) * (blk (g8) (.cells Zz 126 (0, 0)) * (blk (g7) (.cells Cc 126 (0, 0)) * (blk (g6) (.cells Bb 126 (0, 0)) * (blk (g5) (.cells Aa 126 (0, 0)) * (blk (w.heap.size + 1 + 1) (.cells Zs 151 (0, 0)) * (blk (w.heap.size + 1) (.cells QQ 151 (0, 0)) * (blk (w.heap.size) (.cells PP 151 (0, 0)) * all w))))))))))).on X := hX
 clear hX
 have h9 := k14 rfl
 rw [← h9] at hX0
 clear h9 k14
 have h9 := k15 rfl
 rw [← h9] at hX0
 clear h9 k15
 have h9 := k16 rfl
 rw [← h9] at hX0
 clear h9 k16
 have h9 := k17 rfl
 rw [← h9] at hX0
 clear h9 k17
 obtain ⟨g9, g10, g11, g12, rfl, rfl, rfl, rfl, hY⟩ := bv_blk4 hX0
 have H12 := hide hY
 have S12 := hide hSX
 clear hX0 hY hSX H11 S11
 go_wp2
 refine Rest.done ?_
 go_wp2
 refine hK7.out _ _ ?_
 clear hK7 K7
 refine wp_seq_h fun K8 hK8 => ?_
 have hT0 := hide (hTab.out.below (all_below H12.out.right.right.right.right.right.right.right.right.right.right.right S12.out))
 refine wp_tail 17 [isV (.agg Ee), isV (.agg Ff), fun v X => IsEl X v [e, f], isV (.agg RX), isV (.agg Gg), isV (.agg Hh), fun v X => IsEl X v [g, h], isV (.agg RY), isV (.agg Ff), isV (.agg Gg), fun v X => IsEl X v [f, g], isV (.agg RZ), isV (.agg Ee), isV (.agg Hh), fun v X => IsEl X v [e, h], isV (.agg RT), isV (.agg RR)] ?t40 ?r41 (hk := ?keep)
 case keep => exact ⟨Keep.isV _, Keep.isV _, fun _ _ _ h k => IsEl.below h k, Keep.isV _, Keep.isV _, Keep.isV _, fun _ _ _ h k => IsEl.below h k, Keep.isV _, Keep.isV _, Keep.isV _, fun _ _ _ h k => IsEl.below h k, Keep.isV _, Keep.isV _, Keep.isV _, fun _ _ _ h k => IsEl.below h k, Keep.isV _, Keep.isV _, trivial⟩
 case' t40 => refine ⟨?_, ?_, ?_, ?_, ?_, ?_, ?_, ?_, ?_, ?_, ?_, ?_, ?_, ?_, ?_, ?_, ?_, trivial⟩ <;> intro ev X hT hb hk hf
 ·exact OpOk.l (x := .tmp 9) hk.1 (on_blk_mul (H12.out.below hT)) hu HsEe.out
 ·exact OpOk.l (x := .tmp 10) hk.1 (on_blk_mul (H12.out.below hT).right) hu HsFf.out
 ·exact OpOk.run (v := .slice (some ⟨X.heap.size, 0, .none⟩) 2 2) (W' := X.alloc (.cells #[lv (limb e 0), lv (limb e 1), lv (limb e 2), lv (limb e 3), lv (limb f 0), lv (limb f 1), lv (limb f 2), lv (limb f 3)] 126)) (by simp [execOp, fX ev 70 hf.1, fX ev 71 hf.2.1, hb_e_f.out X]) ⟨IsEl.two (heap_alloc_new X _), (Below.refl X.heap.size X).alloc (Nat.le_refl _) _⟩
 ·have e0 : IsEl X (ev (.tmp 72)) [e, f] := hf.1
  exact OpOk.c0 hb (hm5.out _ X e0 (hT0.out.below hT).f)
 ·exact OpOk.l (x := .tmp 11) hk.1 (on_blk_mul (H12.out.below hT).right.right) hu HsGg.out
 ·exact OpOk.l (x := .tmp 12) hk.1 (on_blk_mul (H12.out.below hT).right.right.right) hu HsHh.out
 ·exact OpOk.run (v := .slice (some ⟨X.heap.size, 0, .none⟩) 2 2) (W' := X.alloc (.cells #[lv (limb g 0), lv (limb g 1), lv (limb g 2), lv (limb g 3), lv (limb h 0), lv (limb h 1), lv (limb h 2), lv (limb h 3)] 126)) (by simp [execOp, fX ev 74 hf.1, fX ev 75 hf.2.1, hb_g_h.out X]) ⟨IsEl.two (heap_alloc_new X _), (Below.refl X.heap.size X).alloc (Nat.le_refl _) _⟩
 ·have e0 : IsEl X (ev (.tmp 76)) [g, h] := hf.1
  exact OpOk.c0 hb (hm6.out _ X e0 (hT0.out.below hT).f)
 ·exact OpOk.l (x := .tmp 10) hk.1 (on_blk_mul (H12.out.below hT).right) hu HsFf.out
 ·exact OpOk.l (x := .tmp 11) hk.1 (on_blk_mul (H12.out.below hT).right.right) hu HsGg.out
 ·exact OpOk.run (v := .slice (some ⟨X.heap.size, 0, .none⟩) 2 2) (W' := X.alloc (.cells #[lv (limb f 0), lv (limb f 1), lv (limb f 2), lv (limb f 3), lv (limb g 0), lv (limb g 1), lv (limb g 2), lv (limb g 3)] 126)) (by simp [execOp, fX ev 78 hf.1, fX ev 79 hf.2.1, hb_f_g.out X]) ⟨IsEl.two (heap_alloc_new X _), (Below.refl X.heap.size X).alloc (Nat.le_refl _) _⟩
 ·have e0 : IsEl X (ev (.tmp 80)) [f, g] := hf.1
  exact OpOk.c0 hb (hm7.out _ X e0 (hT0.out.below hT).f)
 ·exact OpOk.l (x := .tmp 9) hk.1 (on_blk_mul (H12.out.below hT)) hu HsEe.out
 ·exact OpOk.l (x := .tmp 12) hk.1 (on_blk_mul (H12.out.below hT).right.right.right) hu HsHh.out
 ·exact OpOk.run (v := .slice (some ⟨X.heap.size, 0, .none⟩) 2 2) (W' := X.alloc (.cells #[lv (limb e 0), lv (limb e 1), lv (limb e 2), lv (limb e 3), lv (limb h 0), lv (limb h 1), lv (limb h 2), lv (limb h 3)] 126)) (by simp [execOp, fX ev 82 hf.1, fX ev 83 hf.2.1, hb_e_h.out X]) ⟨IsEl.two (heap_alloc_new X _), (Below.refl X.heap.size X).alloc (Nat.le_refl _) _⟩
 ·have e0 : IsEl X (ev (.tmp 84)) [e, h] := hf.1
  exact OpOk.c0 hb (hm8.out _ X e0 (hT0.out.below hT).f)
 ·exact OpOk.r (by simp [execOp, fX ev 73 hf.1, fX ev 77 hf.2.1, fX ev 81 hf.2.2.1, fX ev 85 hf.2.2.2.1, hbsp.out X])
 intro w13 hX
 rintro _ rfl _ rfl _ - _ rfl _ rfl _ rfl _ - _ rfl _ rfl _ rfl _ - _ rfl _ rfl _ rfl _ - _ rfl _ rfl
 obtain ⟨H13, S13⟩ := nx H12.out S12.out hX
 clear hX H12 S12
 clear hT0
 go_wp2
 refine Rest.done ?_
 have gR := on_blk_mul H13.out.right.right.right.right.right.right.right.right
 have HB := hide (all_below H13.out.right.right.right.right.right.right.right.right.right.right.right S13.out)
 go_wp2_with (first
  | (refine wS gR HsRR HzRR HoRR ?_))
 refine hK8.out _ _ ?_
 clear hK8 K8
 go_wp2
 exact retR Tryz.results94 gR hus HsRR.out rfl HB.out (by omega)
theorem plus_any (s t : Ed.Sp) (w : World) (hT : TabC w) :
  Calls Tryz.prog 94 #[.agg (spC s), .agg (spC t)] w fun e w' => e = .returned (.agg (spC (s.add t))) ∧ Below w.heap.size w w' := by
 have h := plus_nat _ _ _ _ _ _ _ _ s.x.isLt s.y.isLt s.z.isLt s.t.isLt t.x.isLt t.y.isLt t.z.isLt t.t.isLt w hT
 have e := Ed.nAdd_ok s t
 unfold Ed.Sp.nat at e
 rw [← e] at h
 exact h
theorem nmInfo (n : Nat) : (Tryz.prog.info? 131).map (·.size) = some (q4 n).size := by rw [q4_size]; kernel_rfl
theorem nmZero (w : World) : (zeroValue 131).run Tryz.prog w = .ok (.agg (q4 0)) w := by rw [qz4]; kernel_rfl
structure PtIs (x y : Nat) (p : Ed.Pt) : Prop where
 xe : x = p.x.val
 ye : whY x y = p.y.val
 yl : y < P5
theorem PtIs.xl {x y : Nat} {p : Ed.Pt} (h : PtIs x y p) : x < P5 := by rw [h.xe]; exact p.x.isLt
theorem PtIs.self (p : Ed.Pt) : PtIs p.x.val p.y.val p := by
 refine ⟨rfl, ?_, p.y.isLt⟩
 unfold whY
 split
 ·rename_i h
  simp only [Bool.and_eq_true, decide_eq_true_eq] at h
  exfalso
  have hx : p.x = 0 := Fin.ext h.1
  have hy : p.y = 0 := Fin.ext h.2
  have ho := p.on
  unfold Ed.On at ho
  rw [hx, hy] at ho
  revert ho
  decide
 rfl
def ptC (p : Ed.Pt) : Array Value := pC p.x.val p.y.val
theorem ptC_none : ptC Ed.Pt.none = pC 0 1 := by
 show pC (0 : Ed.F5).val (1 : Ed.F5).val = _
 rw [Ed.zero_val, Ed.one_val]
theorem spInfo (s : Ed.Sp) : (Tryz.prog.info? 151).map (·.size) = some (spC s).size := sInfo _ _ _ _
theorem spOne (s : Ed.Sp) : (spC s).all (·.oneCell') = true := sC_one _ _ _ _
theorem spSize (s t : Ed.Sp) : (spC s).size = (spC t).size := sSize _ _ _ _ _ _ _ _
theorem spZ (s : Ed.Sp) : (sC 0 0 0 0).size = (spC s).size := sSize _ _ _ _ _ _ _ _
theorem ptInfo (p : Ed.Pt) : (Tryz.prog.info? 128).map (·.size) = some (ptC p).size := pInfo _ _
theorem ptOne (p : Ed.Pt) : (ptC p).all (·.oneCell') = true := pC_one _ _
theorem ptZ (p : Ed.Pt) : (pC 0 0).size = (ptC p).size := pSize _ _ _ _
theorem spread_pt {x y : Nat} {p : Ed.Pt} (h : PtIs x y p) (w : World) (hT : TabC w) :
  Calls Tryz.prog 92 #[.agg (pC x y)] w fun e w' => e = .returned (.agg (spC p.spread)) ∧ Below w.heap.size w w' := by
 have h2 := spread_any x y h.xl h.yl w hT
 rw [h.ye, h.xe] at h2
 unfold spC Ed.Pt.spread
 rw [Ed.one_val, Ed.val_mul, ← h.xe] at *
 rw [h.xe]
 rw [h.xe] at h2
 exact h2
theorem point_has {s : Ed.Sp} {p : Ed.Pt} (h : s.has p) (w : World) (hT : TabC w) :
  Calls Tryz.prog 96 #[.agg (spC s)] w fun e w' => e = .returned (.agg (ptC p)) ∧ Below w.heap.size w w' := by
 have h2 := point_any s w hT
 have e := Ed.Ex.point h
 rw [e.1, e.2] at h2
 exact h2
theorem none_pt (w : World) : Calls Tryz.prog 93 #[] w fun e w' => e = .returned (.agg (ptC Ed.Pt.none)) ∧ Below w.heap.size w w' := by
 rw [ptC_none]; exact none_any w
theorem base_pt (w : World) (hT : TabC w) : Calls Tryz.prog 81 #[] w fun e w' => e = .returned (.agg (ptC Ed.Pt.base)) ∧ Below w.heap.size w w' := by
 have h := base_any w hT
 rw [← Ed.el_val Ed.bxN (by decide), ← Ed.el_val Ed.byN (by decide)] at h
 exact h
theorem spread_p (p : Ed.Pt) (w : World) (hT : TabC w) :
  Calls Tryz.prog 92 #[.agg (ptC p)] w fun e w' => e = .returned (.agg (spC p.spread)) ∧ Below w.heap.size w w' := spread_pt (PtIs.self p) w hT
theorem spread_none : Ed.Pt.none.spread.has Ed.Pt.none := Ed.Pt.spread_has _
theorem sp_none : spC Ed.Pt.none.spread = spC Ed.Sp.none := by
 unfold spC Ed.Pt.spread Ed.Sp.none Ed.Pt.none
 rw [Ed.val_mul, Ed.zero_val, Nat.zero_mul]
 rfl
theorem ptimes_any (x y : Nat) (p : Ed.Pt) (hp : PtIs x y p) (n : Nat) (hn : n < 2 ^ 256) (w : World) (hT : TabC w) :
  Calls Tryz.prog 82 #[.agg (pC x y), .agg (q4 n)] w fun e w' => e = .returned (.agg (ptC (p.mul n))) ∧ Below w.heap.size w w' := by
 have hup := Tryz.underlying128
 have husn := Tryz.underlying131
 have hus := Tryz.underlying151
 have hzP := pZero
 have hzC := nmZero
 have hzS := sZero
 have h0 := (((on_all w).alloc (.cells (pC x y) 128)).alloc (.cells (q4 n) 131)).alloc (.cells (pC 0 0) 128)
 have s0 := (((Str.refl w).alloc (.cells (pC x y) 128)).alloc (.cells (q4 n) 131)).alloc (.cells (pC 0 0) 128)
 try simp only [World.size_alloc] at h0
 have H1 := hide h0
 have S1 := hide s0
 clear h0 s0
 have Hsp := hide (fun X h => spread_pt hp X h)
 have Hno := hide (fun X => none_pt X)
 have Hs0 := hide (fun X h => spread_p Ed.Pt.none X h)
 have Hpl := hide (fun s t X h => plus_any s t X h)
 have Hend := hide (fun X h => point_has (Ed.Sp.times_all (Ed.Pt.spread_has p) n hn) X h)
 have Hbit := hide (fun (k : Nat) (hk : k < 256) X => bit_any n (k : Int) (by omega) (by omega) X)
 have HI := hide spInfo
 have HO := hide spOne
 have HZ := hide spSize
 have HZs := hide spZ
 obtain ⟨HsR, HoR, HzR⟩ := b3 (ptInfo (p.mul n)) (ptOne (p.mul n)) (ptZ (p.mul n))
 have Hn0 := hide sp_none
 have hTab := hide hT
 obtain ⟨HsO, HoO, HzO⟩ := b3 (spInfo p.spread) (spOne p.spread) (spZ p.spread)
 obtain ⟨HsQ0, HoQ0, HzQ0⟩ := b3 (spInfo Ed.Pt.none.spread) (spOne Ed.Pt.none.spread) (spZ Ed.Pt.none.spread)
 obtain ⟨HsAp, HoAp, HzAp⟩ := b3 (pInfo x y) (pC_one x y) (pSize 0 0 x y)
 obtain ⟨HsN4, HoN4, HzN4⟩ := b3 (nmInfo n) (eOne n) (eSize 0 n)
 generalize pC x y = Ap at *
 generalize q4 n = N4 at *
 generalize pC 0 0 = Zp at *
 generalize q4 0 = Z4 at *
 generalize sC 0 0 0 0 = Zs at *
 generalize ptC (p.mul n) = R at *
 generalize ptC Ed.Pt.none = P0 at *
 generalize hO : spC p.spread = O at *
 have HOe := hide hO
 clear hO
 generalize spC Ed.Pt.none.spread = Q0 at *
 go_enter Tryz.func82, Tryz.ntmps82
 have gA := on_blk_mul H1.out.right.right
 go_wp2_with (first
  | (refine wL gA hup HsAp ?_))
 clear gA
 generalize ((w.alloc (.cells Ap 128)).alloc (.cells N4 131)).alloc (.cells Zp 128) = w1 at *
 refine (Hsp.out _ (hT.below (all_below H1.out.right.right.right S1.out))).mono ?_
 rintro e w2 ⟨rfl, hB⟩
 obtain ⟨H2, S2⟩ := nx H1.out S1.out hB
 clear hB H1 S1
 obtain ⟨gN, gM, H3, S3⟩ := newV H2.out S2.out Zs O 151
 go_wp2_with (first
  | (refine wS gN HsO HzO HoO ?_))
 generalize (w2.alloc (.cells Zs 151)).setRow w2.heap.size O = w3 at *
 clear gN gM H2 S2
 generalize w2.heap.size = p5 at *
 refine (Hno.out _).mono ?_
 rintro e w4 ⟨rfl, hB⟩
 obtain ⟨H4, S4⟩ := nx H3.out S3.out hB
 clear hB H3 S3
 go_wp2_with fail
 refine (Hs0.out _ (hT.below (all_below H4.out.right.right.right.right S4.out))).mono ?_
 rintro e w5 ⟨rfl, hB⟩
 obtain ⟨H5, S5⟩ := nx H4.out S4.out hB
 clear hB H4 S4
 obtain ⟨gN, gM, H6, S6⟩ := newV H5.out S5.out Zs Q0 151
 go_wp2_with (first
  | (refine wS gN HsQ0 HzQ0 HoQ0 ?_))
 generalize (w5.alloc (.cells Zs 151)).setRow w5.heap.size Q0 = w6 at *
 clear gN gM H5 S5
 generalize w5.heap.size = p6 at *
 go_loopw [12] (fun i wr => ∃ k : Nat, k ≤ 256 ∧ i = .int .i64 k ∧ (blk p6 (.cells (spC (Ed.Sp.times p.spread n k)) 151 (0, 0)) * (blk (p5) (.cells O 151 (0, 0)) * (blk (w.heap.size + 1 + 1) (.cells Zp 128 (0, 0)) * (blk (w.heap.size + 1) (.cells N4 131 (0, 0)) * (blk (w.heap.size) (.cells Ap 128 (0, 0)) * all w))))).on wr ∧ Str w wr) (fun i _ => 256 - (intOf i).toNat)
 case atStart => exact ⟨0, by omega, rfl, by rw [show Ed.Sp.times p.spread n 0 = Ed.Sp.none from rfl, ← Hn0.out]; exact H6.out, S6.out⟩
 obtain ⟨k, hk, rfl, hX, hS2⟩ := hrel
 have H4 := hide hX
 have S4 := hide hS2
 clear hX hS2 H6 S6
 by_cases hlt : k < 256
 ·have hst : Ed.Sp.times p.spread n (k + 1) = Ed.Sp.next p.spread (n.testBit (255 - k)) (Ed.Sp.add (Ed.Sp.times p.spread n k) (Ed.Sp.times p.spread n k)) := rfl
  have hb := Hbit.out (255 - k) (by omega)
  rw [bitOf_in n (255 - k) (by omega)] at hb
  have s1 : IntKind.i64.wrap (255 - (k : Int)) = ((255 - k : Nat) : Int) := by rw [IntWalk.i64_in _ (by omega)]; omega
  have Hb := hide hb
  clear hb
  obtain ⟨m, hm⟩ : ∃ m, m = 255 - k := ⟨_, rfl⟩
  rw [← hm] at hst Hb s1
  generalize Ed.Sp.times p.spread n k = s at *
  have Hst := hide hst
  have Hm := hide hm
  clear hst hm
  have Hp1 := hide (fun X h => Hpl.out s s X h)
  have Hp2 := hide (fun X h => Hpl.out (s.add s) p.spread X h)
  rw [HOe.out] at Hp2
  have HsA := hide (HI.out s)
  obtain ⟨HsB, HoB, HzB⟩ := b3 (HI.out (s.add s)) (HO.out (s.add s)) (HZ.out s (s.add s))
  obtain ⟨HsC, HoC, HzC⟩ := b3 (HI.out ((s.add s).add p.spread)) (HO.out ((s.add s).add p.spread)) (HZ.out (s.add s) ((s.add s).add p.spread))
  generalize spC s = A at *
  generalize hB : spC (s.add s) = B at *
  generalize hC : spC ((s.add s).add p.spread) = C at *
  have HB := hide hB
  have HC := hide hC
  clear hB hC
  have g0 := on_blk_mul H4.out
  go_wp2_with (first
   | (refine wL g0 hus HsA ?_))
  clear g0
  refine (Hp1.out _ (hT.below (all_below H4.out.right.right.right.right.right S4.out))).mono ?_
  rintro e w5 ⟨rfl, hB⟩
  obtain ⟨H5, S5⟩ := nx H4.out S4.out hB
  clear hB H4 S4
  have H6 := hide (st0 H5.out (cs := B))
  have S6 := hide (S5.out.setRow (p6) B)
  have gW := on_blk_mul H5.out
  have gN := on_blk_mul H6.out.right.right.right
  go_wp2_with (first
   | (refine wS gW HsB HzB HoB ?_)
   | (refine wL gN husn HsN4 ?_))
  clear gN
  generalize w5.setRow (p6) B = w6 at *
  clear gW H5 S5
  refine (Hb.out _).mono ?_
  rintro e w7 ⟨rfl, hB⟩
  obtain ⟨H7, S7⟩ := nx H6.out S6.out hB
  clear hB H6 S6
  by_cases ht : n.testBit m = true
  ·have HN := hide (show Ed.Sp.times p.spread n (k + 1) = (s.add s).add p.spread by rw [Hst.out, ht]; exact if_pos rfl)
   have hq := ht
   rw [hq]
   clear hq ht
   have g0 := on_blk_mul H7.out
   have g1 := on_blk_mul H7.out.right
   go_wp2_with (first
    | (refine wL g0 hus HsB ?_)
    | (refine wL g1 hus HsO ?_))
   clear g0 g1
   refine (Hp2.out _ (hT.below (all_below H7.out.right.right.right.right.right S7.out))).mono ?_
   rintro e w8 ⟨rfl, hB⟩
   obtain ⟨H8, S8⟩ := nx H7.out S7.out hB
   clear hB H7 S7
   have H9 := hide (st0 H8.out (cs := C))
   have S9 := hide (S8.out.setRow (p6) C)
   have gW := on_blk_mul H8.out
   go_wp2_with (first
    | (refine wS gW HsC HzC HoC ?_))
   exact ⟨⟨k + 1, by omega, by simp, by rw [HN.out, HC.out]; exact H9.out, S9.out⟩, by simp [intOf]; omega⟩
  have hf : n.testBit m = false := by simpa using ht
  have HN := hide (show Ed.Sp.times p.spread n (k + 1) = s.add s by rw [Hst.out, hf]; exact if_neg (by decide))
  rw [hf]
  clear ht hf
  go_wp2
  exact ⟨⟨k + 1, by omega, by simp, by rw [HN.out, HB.out]; exact H7.out, S7.out⟩, by simp [intOf]; omega⟩
 obtain rfl : k = 256 := by omega
 have HsP := hide (HI.out (Ed.Sp.times p.spread n 256))
 generalize spC (Ed.Sp.times p.spread n 256) = P at *
 have g0 := on_blk_mul H4.out
 go_wp2_with (first
  | (refine wL g0 hus HsP ?_))
 clear g0
 refine (Hend.out _ (hT.below (all_below H4.out.right.right.right.right.right S4.out))).mono ?_
 rintro e w5 ⟨rfl, hB⟩
 obtain ⟨H5, S5⟩ := nx H4.out S4.out hB
 clear hB H4 S4
 have gR := on_blk_mul H5.out.right.right
 have HB := hide (all_below H5.out.right.right.right.right.right S5.out)
 go_wp2_with (first
  | (refine wS gR HsR HzR HoR ?_))
 exact retR Tryz.results82 gR hup HsR.out rfl HB.out (by omega)
def IsPs (w : World) (v : Value) (ps : List (Nat × Nat)) : Prop := ∃ a c, v = .slice a ps.length c ∧ (∀ k q, ps[k]? = some q → ∃ g, a = some ⟨g, 0, .none⟩ ∧ ∀ j x, (pC q.1 q.2)[j]? = some x → w.cell? ⟨g, k * 8 + j, .none⟩ = some x)
theorem IsPs.below {w X : World} {v : Value} {ns : List (Nat × Nat)} (h : IsPs w v ns) (hb : Below w.heap.size w X) : IsPs X v ns := by
 obtain ⟨a, c, rfl, h⟩ := h
 refine ⟨a, c, rfl, fun k n hk => ?_⟩
 obtain ⟨g, rfl, hc⟩ := h k n hk
 exact ⟨g, rfl, fun j x hx => (hb.cell (World.block_lt_of_cell? _ _ (hc j x hx))).trans (hc j x hx)⟩
def psC (ps : List (Nat × Nat)) : Array Value := lvs (ps.flatMap fun q => qs 4 q.1 ++ qs 4 q.2)
theorem psC_at : ∀ (ps : List (Nat × Nat)) (k : Nat) (q : Nat × Nat) (j : Nat) (x : Value), ps[k]? = some q → (pC q.1 q.2)[j]? = some x → (psC ps)[k * 8 + j]? = some x
 | [], k, q, j, x, h, _ => by simp at h
 | r :: ps, 0, q, j, x, h, hx => by
  obtain rfl : r = q := by simpa using h
  have := lvs_part [] (qs 4 r.1 ++ qs 4 r.2) (ps.flatMap fun q => qs 4 q.1 ++ qs 4 q.2) j x hx
  simpa [psC] using this
 | r :: ps, k + 1, q, j, x, h, hx => by
  have ih := psC_at ps k q j x (by simpa using h) hx
  have := lvs_part (qs 4 r.1 ++ qs 4 r.2) (ps.flatMap fun q => qs 4 q.1 ++ qs 4 q.2) [] (k * 8 + j) x ih
  rw [List.append_nil, List.length_append, qs_len, qs_len] at this
  rw [show (k + 1) * 8 + j = 4 + 4 + (k * 8 + j) by omega]
  exact this
theorem IsPs.of {w : World} {g : Nat} {ps : List (Nat × Nat)} {t : TypeId} {fr : Nat × Nat} {c : Nat} (h : w.heap[g]? = some (.cells (psC ps) t fr)) : IsPs w (.slice (some ⟨g, 0, .none⟩) ps.length c) ps :=
 ⟨_, _, rfl, fun k q hk => ⟨g, rfl, fun j x hx => (cell_of_row w g (k * 8 + j) _ _ _ h).trans (psC_at ps k q j x hk hx)⟩⟩
theorem psC_2 (a b c d : Nat) : psC [(a, b), (c, d)] = #[lv (limb a 0), lv (limb a 1), lv (limb a 2), lv (limb a 3), lv (limb b 0), lv (limb b 1), lv (limb b 2), lv (limb b 3), lv (limb c 0), lv (limb c 1), lv (limb c 2), lv (limb c 3), lv (limb d 0), lv (limb d 1), lv (limb d 2), lv (limb d 3)] := rfl
theorem run_ps2 (a b c d : Nat) (w : World) : (Instr.buildSlice 155 2 #[(0, .agg (pC a b)), (1, .agg (pC c d))]).run Tryz.prog w = .ok (.slice (some ⟨w.heap.size, 0, .none⟩) 2 2) (w.alloc (.cells (psC [(a, b), (c, d)]) 128)) := by
 rw [psC_2, pC_lit, pC_lit]; kernel_rfl
def Go2 (ps : List (Nat × Nat)) (l : List Ed.Pt) : Prop := ps.length = l.length ∧ ∀ (k : Nat) (q : Nat × Nat) (p : Ed.Pt), ps[k]? = some q → l[k]? = some p → PtIs q.1 q.2 p
def psum (l : List Ed.Pt) : Ed.Pt := l.foldl Ed.Pt.sum Ed.Pt.none
theorem psum_snoc (l : List Ed.Pt) (k : Nat) (h : k < l.length) : psum (l.take (k + 1)) = (psum (l.take k)).sum l[k] := by
 unfold psum
 rw [List.take_succ_eq_append_getElem h, List.foldl_append]; rfl
theorem padd_any (v : Value) (ps : List (Nat × Nat)) (l : List Ed.Pt) (hg : Go2 ps l) (hl : ps.length < 1000) (w : World) (hv : IsPs w v ps) (hT : TabC w) :
  Calls Tryz.prog 83 #[v] w fun e w' => e = .returned (.agg (ptC (psum l))) ∧ Below w.heap.size w w' := by
 obtain ⟨a, c, rfl, hv⟩ := hv
 have hup := Tryz.underlying128
 have hus := Tryz.underlying151
 have hzP := pZero
 have hzS := sZero
 have h0 := (on_all w).alloc (.cells (pC 0 0) 128)
 have s0 := (Str.refl w).alloc (.cells (pC 0 0) 128)
 try simp only [World.size_alloc] at h0
 have H1 := hide h0
 have S1 := hide s0
 clear h0 s0
 have Hno := hide (fun X => none_pt X)
 have Hs0 := hide (fun X h => spread_p Ed.Pt.none X h)
 have Hpl := hide (fun s t X h => plus_any s t X h)
 have Hsp := hide (fun x y p (h : PtIs x y p) X h2 => spread_pt h X h2)
 have Hend := hide (fun (s : Ed.Sp) (h : s.has (psum l)) X h2 => point_has h X h2)
 have HI := hide spInfo
 have HO := hide spOne
 have HZ := hide spSize
 have HZs := hide spZ
 have HpI := hide pInfo
 have HpO := hide pC_one
 have HpZ := hide (fun x y => pSize 0 0 x y)
 obtain ⟨HsR, HoR, HzR⟩ := b3 (ptInfo (psum l)) (ptOne (psum l)) (ptZ (psum l))
 have hTab := hide hT
 have Hhas := hide spread_none
 obtain ⟨HsQ0, HoQ0, HzQ0⟩ := b3 (spInfo Ed.Pt.none.spread) (spOne Ed.Pt.none.spread) (spZ Ed.Pt.none.spread)
 have Hv := hide hv
 have Hg := hide hg
 have Hl := hide hl
 clear hv hg hl
 generalize pC 0 0 = Zp at *
 generalize sC 0 0 0 0 = Zs at *
 generalize ptC (psum l) = R at *
 generalize ptC Ed.Pt.none = P0 at *
 generalize hQ : spC Ed.Pt.none.spread = Q0 at *
 have HQ := hide hQ
 clear hQ
 go_enter Tryz.func83, Tryz.ntmps83
 go_wp2_with fail
 generalize w.alloc (.cells Zp 128) = w1 at *
 refine (Hno.out _).mono ?_
 rintro e w2 ⟨rfl, hB⟩
 obtain ⟨H2, S2⟩ := nx H1.out S1.out hB
 clear hB H1 S1
 go_wp2_with fail
 refine (Hs0.out _ (hT.below (all_below H2.out.right S2.out))).mono ?_
 rintro e w3 ⟨rfl, hB⟩
 obtain ⟨H3, S3⟩ := nx H2.out S2.out hB
 clear hB H2 S2
 obtain ⟨gN, gM, H4, S4⟩ := newV H3.out S3.out Zs Q0 151
 go_wp2_with (first
  | (refine wS gN HsQ0 HzQ0 HoQ0 ?_))
 generalize (w3.alloc (.cells Zs 151)).setRow w3.heap.size Q0 = w4 at *
 clear gN gM H3 S3
 generalize w3.heap.size = p3 at *
 go_loopw [10] (fun i wr => ∃ k : Nat, ∃ s : Ed.Sp, k ≤ ps.length ∧ i = .int .i64 k ∧ s.has (psum (l.take k)) ∧ (blk p3 (.cells (spC s) 151 (0, 0)) * (blk (w.heap.size) (.cells Zp 128 (0, 0)) * all w)).on wr ∧ Str w wr) (fun i _ => ps.length - (intOf i).toNat)
 case atStart => exact ⟨0, Ed.Pt.none.spread, by omega, rfl, Hhas.out, by rw [HQ.out]; exact H4.out, S4.out⟩
 obtain ⟨k, s, hk, rfl, hhas, hX, hS2⟩ := hrel
 have H20 := hide hX
 have S20 := hide hS2
 have Hs := hide hhas
 clear hX hS2 hhas H4 S4
 by_cases hlt : k < ps.length
 ·have hB0 := all_below H20.out.right.right S20.out
  obtain ⟨g, rfl, hc⟩ := Hv.out k ps[k] (List.getElem?_eq_getElem hlt)
  have hkl : k < l.length := by rw [← Hg.out.1]; exact hlt
  have hpt := Hg.out.2 k ps[k] l[k] (List.getElem?_eq_getElem hlt) (List.getElem?_eq_getElem hkl)
  have hnext := Ed.Sp.add_has Hs.out (Ed.Pt.spread_has l[k])
  rw [← psum_snoc l k hkl] at hnext
  have hcell := fun j x hx => (hB0.cell (World.block_lt_of_cell? _ _ (hc j x hx))).trans (hc j x hx)
  have Hsp2 := hide (fun X h2 => Hsp.out _ _ _ hpt X h2)
  generalize l[k] = p at *
  have Hp2 := hide (fun X h => Hpl.out s p.spread X h)
  have Hn := hide hnext
  generalize ps[k] = q at *
  obtain ⟨x, y⟩ := q
  dsimp only at hcell hpt Hsp2
  have hl9 := Hl.out
  have hkn : (k : Int) < (ps.length : Int) := by omega
  have hkn2 : (k : Int) < ((ps.length : Nat) : Int) := hkn
  clear hc hB0 hlt hpt hnext hkl
  obtain ⟨HsXP, HoXP, HzXP⟩ := b3 (HpI.out x y) (HpO.out x y) (HpZ.out x y)
  have HsA := hide (HI.out s)
  have HsB := hide (HI.out p.spread)
  have HsC := hide (HI.out (s.add p.spread))
  have HoC := hide (HO.out (s.add p.spread))
  have HzA := hide (HZs.out s)
  have HzC := hide (HZs.out (s.add p.spread))
  generalize pC x y = XP at *
  generalize pC 0 0 = Zp0 at *
  generalize spC s = A at *
  generalize spC p.spread = B at *
  generalize hC : spC (s.add p.spread) = C at *
  have HC := hide hC
  have Hcell := hide hcell
  clear hC hcell
  have ht := Hcell.out
  have hN := H20.out.alloc (.cells Zp 128)
  have gN := on_blk_mul hN
  have hM := hN.setRow XP
  have H21 := hide hM
  have S21 := hide ((S20.out.alloc (.cells Zp 128)).setRow wr.heap.size XP)
  clear hN hM
  go_wp2_with (first
   | (refine wpList_load_part rfl _ _ rfl g (k * 8) rfl XP _ ht hup rfl HsXP ?_)
   | (refine wS gN HsXP HzXP HoXP ?_))
  generalize (wr.alloc (.cells Zp 128)).setRow wr.heap.size XP = w21 at *
  clear gN H20 S20 ht
  generalize wr.heap.size = p5 at *
  have hT0 := hide (hTab.out.below (all_below H21.out.right.right.right S21.out))
  refine wp_tail 4 (iv [.agg A, .agg XP, .agg B, .agg C]) ?t41 ?r42
  case' t41 => refine ⟨?_, ?_, ?_, ?_, trivial⟩ <;> intro ev X hT hb hk hf
  ·exact OpOk.l (x := .tmp 3) hk.1 (on_blk_mul (H21.out.below hT).right) hus HsA.out
  ·exact OpOk.l (x := .tmp 5) hk.1 (on_blk_mul (H21.out.below hT)) hup HsXP.out
  ·refine OpOk.enters (f := 92) (args := #[.agg XP]) (W' := X) (by simp [execOp, resolve, invoke, fX ev 15 hf.1, hb.1, hb.2.1, go_sem]) ((Hsp2.out X (hT0.out.below hT)).mono ?_)
   rintro e _ ⟨rfl, hB⟩
   exact ⟨_, rfl, rfl, hB⟩
  ·exact OpOk.c2 (fX ev 14 hf.1) (fX ev 16 hf.2.1) hb (Hp2.out X (hT0.out.below hT))
  intro w22 hX
  rintro _ rfl _ rfl _ rfl _ rfl
  obtain ⟨H22, S22⟩ := nx H21.out S21.out hX
  clear hX H21 S21
  clear hT0
  go_wp2
  refine Rest.done ?_
  have H23 := hide (st1 H22.out (cs := C))
  have S23 := hide (S22.out.setRow (p3) C)
  have gW := on_blk_mul H22.out.right
  go_wp2_with (first
   | (refine wS gW HsC.out (HzA.out.symm.trans HzC.out) HoC.out ?_))
  generalize w22.setRow (p3) C = w23 at *
  clear gW H22 S22
  exact ⟨⟨k + 1, s.add p.spread, by omega, by simp, Hn.out, by rw [HC.out]; exact H23.out.right, S23.out⟩, by simp [intOf]; omega⟩
 obtain rfl : k = ps.length := by omega
 have hl9 := Hl.out
 have hh := Hs.out
 rw [Hg.out.1, List.take_length] at hh
 have Hend2 := hide (fun X h2 => Hend.out s hh X h2)
 have HsP := hide (HI.out s)
 generalize spC s = P at *
 clear hh
 have g0 := on_blk_mul H20.out
 go_wp2_with (first
  | (refine wL g0 hus HsP ?_))
 clear g0
 refine (Hend2.out _ (hT.below (all_below H20.out.right.right S20.out))).mono ?_
 rintro e w21 ⟨rfl, hB⟩
 obtain ⟨H21, S21⟩ := nx H20.out S20.out hB
 clear hB H20 S20
 have gR := on_blk_mul H21.out.right
 have HB := hide (all_below H21.out.right.right S21.out)
 go_wp2_with (first
  | (refine wS gR HsR HzR HoR ?_))
 exact retR Tryz.results83 gR hup HsR.out rfl HB.out (by omega)
theorem psame_any (x y : Nat) (p : Ed.Pt) (hp : PtIs x y p) (x2 y2 : Nat) (q : Ed.Pt) (hq : PtIs x2 y2 q) (w : World) :
  Calls Tryz.prog 80 #[.agg (pC x y), .agg (pC x2 y2)] w fun e w' => e = .returned (.bool (decide (p = q))) ∧ Below w.heap.size w w' := by
 have heq : (decide (x = x2) && decide (whY x y = whY x2 y2)) = decide (p = q) := by
  rw [hp.ye, hq.ye, hp.xe, hq.xe, Bool.eq_iff_iff]
  simp only [Bool.and_eq_true, decide_eq_true_eq]
  constructor
  ·rintro ⟨h1, h2⟩; exact Ed.Pt.same (Fin.ext h1) (Fin.ext h2)
  rintro rfl; exact ⟨rfl, rfl⟩
 have h4 := P5_lt
 have hx := hp.xl
 have hx2 := hq.xl
 have hy := whY_lt x y hp.yl
 have hy2 := whY_lt x2 y2 hq.yl
 have hup := Tryz.underlying128
 have hzP := pZero
 have h0 := ((on_all w).alloc (.cells (pC x y) 128)).alloc (.cells (pC x2 y2) 128)
 have s0 := ((Str.refl w).alloc (.cells (pC x y) 128)).alloc (.cells (pC x2 y2) 128)
 try simp only [World.size_alloc] at h0
 have H1 := hide h0
 have S1 := hide s0
 clear h0 s0
 have Hw1 := hide (fun X => whole_any x y hx hp.yl X)
 have Hw2 := hide (fun X => whole_any x2 y2 hx2 hq.yl X)
 have he := fun X => eq_pC X x (whY x y) x2 (whY x2 y2) (by omega) (by omega) (by omega) (by omega)
 rw [heq] at he
 have He := hide he
 generalize decide (p = q) = bb at *
 have Hgd : Hid (Tryz.prog.eqGuardType Tryz.prog.depth 128 = false) := hide (by kernel_rfl)
 clear heq he h4 hx hx2 hy hy2 hp hq
 obtain ⟨HsAp, HoAp, HzAp⟩ := b3 (pInfo x y) (pC_one x y) (pSize 0 0 x y)
 obtain ⟨HsBp, HoBp, HzBp⟩ := b3 (pInfo x2 y2) (pC_one x2 y2) (pSize 0 0 x2 y2)
 obtain ⟨HsAw, HoAw, HzAw⟩ := b3 (pInfo x (whY x y)) (pC_one x (whY x y)) (pSize 0 0 x (whY x y))
 obtain ⟨HsBw, HoBw, HzBw⟩ := b3 (pInfo x2 (whY x2 y2)) (pC_one x2 (whY x2 y2)) (pSize 0 0 x2 (whY x2 y2))
 generalize pC x y = Ap at *
 generalize pC x2 y2 = Bp at *
 generalize pC x (whY x y) = Aw at *
 generalize pC x2 (whY x2 y2) = Bw at *
 generalize pC 0 0 = Zp at *
 go_enter Tryz.func80, Tryz.ntmps80
 refine wp_seq_h fun K1 hK1 => ?_
 go_wp2
 refine hK1.out _ _ ?_
 clear hK1 K1
 generalize (w.alloc (.cells Ap 128)).alloc (.cells Bp 128) = w1 at *
 refine wp_seq_h fun K2 hK2 => ?_
 refine wp_tail 5 (iv [.agg Ap, .agg Aw, .agg Bp, .agg Bw, .bool bb]) ?t42 ?r43
 case' t42 => refine ⟨?_, ?_, ?_, ?_, ?_, trivial⟩ <;> intro ev X hT hb hk hf
 ·exact OpOk.l (x := .tmp 2) hk.1 (on_blk_mul (H1.out.below hT).right) hup HsAp.out
 ·refine OpOk.enters (f := 91) (args := #[.agg Ap]) (W' := X) (by simp [execOp, resolve, invoke, fX ev 5 hf.1, hb.1, hb.2.1, go_sem]) ((Hw1.out X).mono ?_)
  rintro e _ ⟨rfl, hB⟩
  exact ⟨_, rfl, rfl, hB⟩
 ·exact OpOk.l (x := .tmp 3) hk.1 (on_blk_mul (H1.out.below hT)) hup HsBp.out
 ·refine OpOk.enters (f := 91) (args := #[.agg Bp]) (W' := X) (by simp [execOp, resolve, invoke, fX ev 7 hf.1, hb.1, hb.2.1, go_sem]) ((Hw2.out X).mono ?_)
  rintro e _ ⟨rfl, hB⟩
  exact ⟨_, rfl, rfl, hB⟩
 ·exact OpOk.run (v := .bool bb) (W' := X) (by
   unfold execOp
   simp only [fX ev 6 hf.1, fX ev 8 hf.2.1, Sem.run_bind, run_eqGuard_agg X _ _ _ _ _ _ Hgd.out, run_eql_struct, He.out X, Result.andThen_ok]
   rfl) ⟨rfl, Stay.refl _⟩
 intro w2 hX
 iterate 5 rintro _ rfl
 obtain ⟨H2, S2⟩ := nx H1.out S1.out hX
 clear hX H1 S1
 go_wp2
 refine Rest.done ?_
 have HB := hide (all_below H2.out.right.right S2.out)
 go_wp2
 refine hK2.out _ _ ?_
 clear hK2 K2
 go_wp2
 go_ret
 exact ⟨rfl, HB.out⟩
def zB (n : Nat) : Array Value := zb (bl n)
theorem zBInfo (n : Nat) : (Tryz.prog.info? 22).map (·.size) = some (zB n).size := bInfo _ (bl_len n)
theorem zBOne (n : Nat) : (zB n).all (·.oneCell') = true := bOne _
theorem zBSize (m n : Nat) : (zB m).size = (zB n).size := bSize _ _ (bl_len m) (bl_len n)
theorem zBZero (w : World) : (zeroValue 22).run Tryz.prog w = .ok (.agg (zB 0)) w := by unfold zB; rw [bl_0]; exact bZero w
def tB (n : Nat) : Nat := n / 256 ^ 31
theorem P31 : 2 ^ 255 = 128 * 256 ^ 31 := by decide +kernel
theorem P32 : 256 ^ 32 = 256 * 256 ^ 31 := by decide +kernel
theorem P31_pos : 0 < 256 ^ 31 := by decide +kernel
theorem tB_lt (n : Nat) (h : n < 256 ^ 32) : tB n < 256 := by
 have h1 := P32
 have h2 := P31_pos
 unfold tB
 generalize 256 ^ 31 = K at *
 generalize 256 ^ 32 = M at *
 rw [Nat.div_lt_iff_lt_mul h2]; omega
theorem tB_half (y : Nat) (h : y < 2 ^ 255) : tB y < 128 := by
 have h1 := P31
 have h2 := P31_pos
 unfold tB
 generalize 256 ^ 31 = K at *
 generalize 2 ^ 255 = M at *
 rw [Nat.div_lt_iff_lt_mul h2]; omega
theorem tB_up (y : Nat) : tB (y + 2 ^ 255) = tB y + 128 := by
 have h1 := P31
 have h2 := P31_pos
 unfold tB
 generalize 256 ^ 31 = K at *
 generalize 2 ^ 255 = M at *
 subst h1
 rw [Nat.add_mul_div_right _ _ h2]
theorem tB_at (n : Nat) (h : n < 256 ^ 32) : (bl n)[31]? = some (UInt8.ofNat (tB n)) := by
 have h1 := tB_lt n h
 rw [bl_get n 31 (by decide)]
 unfold tB at *
 rw [Nat.mod_eq_of_lt h1]
theorem zB_cell (n : Nat) (h : n < 256 ^ 32) : (zB n)[31]? = some (vb (UInt8.ofNat (tB n))) := zb_get _ _ _ (tB_at n h)
theorem bl_up (y : Nat) (h : y < 2 ^ 255) : (bl y).set 31 (UInt8.ofNat (tB y + 128)) = bl (y + 2 ^ 255) := by
 have hb := bl_bit (y + 2 ^ 255) 255
 have h3 : 2 ^ 256 = 2 * 2 ^ 255 := by decide +kernel
 have e1 : (y + 2 ^ 255) % 2 ^ (255 + 1) = y + 2 ^ 255 := Nat.mod_eq_of_lt (by show _ < 2 ^ 256; omega)
 have e2 : (y + 2 ^ 255) % 2 ^ 255 = y := by rw [Nat.add_mod_right, Nat.mod_eq_of_lt h]
 have e3 : (y + 2 ^ 255).testBit 255 = true := by
  rw [Nat.testBit_eq_decide_div_mod_eq, Nat.add_div_right _ (Nat.pow_pos (by decide)), Nat.div_eq_of_lt h]; rfl
 rw [e1, e2, if_pos e3] at hb
 rw [hb]
 have := tB_half y h
 show _ = (bl y).set (255 / 8) (UInt8.ofNat (y / 256 ^ (255 / 8) % 256 + 2 ^ (255 % 8)))
 show _ = (bl y).set 31 (UInt8.ofNat (y / 256 ^ 31 % 256 + 2 ^ 7))
 unfold tB at *
 rw [Nat.mod_eq_of_lt (by omega)]
theorem bl_mask (n : Nat) (h : n < 256 ^ 32) : (bl n).set 31 (UInt8.ofNat (tB n % 128)) = bl (n % 2 ^ 255) := by
 have h5 : 256 ^ 32 = 2 * 2 ^ 255 := by decide +kernel
 by_cases hn : n < 2 ^ 255
 ·have h1 := tB_half n hn
  have h2 := tB_at n h
  rw [Nat.mod_eq_of_lt h1, Nat.mod_eq_of_lt hn]
  refine List.ext_getElem? fun j => ?_
  by_cases hj : j = 31
  ·subst hj; rw [List.getElem?_set_self (by rw [bl_len]; decide), h2]
  rw [List.getElem?_set_ne (by omega)]
 obtain ⟨y, rfl⟩ : ∃ y, n = y + 2 ^ 255 := ⟨n - 2 ^ 255, by omega⟩
 have hy : y < 2 ^ 255 := by omega
 have h1 := tB_half y hy
 have h2 := tB_at y (by omega)
 rw [← bl_up y hy, List.set_set, Nat.add_mod_right, Nat.mod_eq_of_lt hy, tB_up, Nat.add_mod_right, Nat.mod_eq_of_lt h1]
 refine List.ext_getElem? fun j => ?_
 by_cases hj : j = 31
 ·subst hj; rw [List.getElem?_set_self (by rw [bl_len]; decide), h2]
 rw [List.getElem?_set_ne (by omega)]
theorem and127 : ∀ b : Fin 256, bits .and .u8 ((b.val : Nat) : Int) 127 = ((b.val % 128 : Nat) : Int) := by decide +kernel
theorem top7 : ∀ b : Fin 256, (((b.val : Nat) : Int) / 128 == 1) = decide (128 ≤ b.val) := by decide +kernel
end Cv
end Go.Proofs.YtjdebgbiockafaaGreatDoor
