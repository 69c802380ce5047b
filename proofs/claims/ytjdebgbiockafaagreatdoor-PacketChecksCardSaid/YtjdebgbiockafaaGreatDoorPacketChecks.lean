/- The law PacketChecks: which packets a machine takes, signed by any secret bytes, perhaps turned somewhere. -/
import Derived.Test.YtjdebgbiockafaaGreatDoorGPc
import Derived.Test.YtjdebgbiockafaaGreatDoorCards
import Derived.Test.YtjdebgbiockafaaGreatDoorTie
import Derived.Deep.DeepHandedRow
set_option linter.unusedVariables false
set_option linter.unusedSimpArgs false
set_option maxRecDepth 100000
set_option maxHeartbeats 8000000
namespace Go.Proofs.YtjdebgbiockafaaGreatDoor
namespace Cv
open Fe
open Go.ChangeShapes Go.WideShapes Go.ChangeAt Go.RowKit
theorem pc_walk (w : World) (hLens : Lens w) (hT : TabS w) (sec : List UInt8) (hk : sec.length = 32) (p : PkS) (hpk : p.Ok) (m : LmS) (hm : m.Ok) :
  Calls Tryz.prog 3 #[.agg (zb sec), .agg (pkC p), .agg (lmC m)] w fun e w' => e = .returned (.bool true) ∧ Below w.heap.size w w' := by
 have hup := Tryz.underlying28
 have hum := Tryz.underlying31
 have hur := Tryz.underlying38
 have hub := Tryz.underlying22
 have huK := Tryz.underlying29
 have hu8s := Tryz.underlying35
 have hu8 := Tryz.underlying5
 have hui := Tryz.underlying3
 have hu32 := Tryz.underlying23
 have hzP := pk_hz
 have hzR := rp_hz
 have HgdN : Hid (Tryz.prog.eqGuardType Tryz.prog.depth 38 = false) := hide (by kernel_rfl)
 have h0 := (((on_all w).alloc (.cells (zb sec) 22)).alloc (.cells (pkC p) 28)).alloc (.cells (lmC m) 31)
 have s0 := (((Str.refl w).alloc (.cells (zb sec) 22)).alloc (.cells (pkC p) 28)).alloc (.cells (lmC m) 31)
 simp only [World.size_alloc] at h0
 have H1 := hide h0
 have S1 := hide s0
 have Hlv := hide (fun X (h1 : Below w.heap.size w X) => lives12_any X (hLens.below h1))
 have Hchk := hide (fun (m' : LmS) (hm' : m'.Ok) v b X (h : IsBytes X v b) (hl : b.length ≤ 1000000) (h1 : Below w.heap.size w X) => pcheck_any v b m' hm' X h hl (hLens.below h1) (hT.below h1))
 have Hpub := hide (fun X => pub_l sec hk X)
 have Hof := hide (fun X => of12_any p hpk X)
 have HrS := hide (fun X => rsigned_any p hpk X)
 have hsb := signedB_len hpk
 have Hsign := hide (fun v X (h : IsBytes X v (signedB p)) => sign_l sec hk v (signedB p) X h (by omega))
 have HsSs : Hid ((Tryz.prog.info? 22).map (·.size) = some (zb sec).size) := hide (by rw [show (zb sec).size = 32 by simp [zb, vbs, hk]]; kernel_rfl)
 have HsP : Hid ((Tryz.prog.info? 28).map (·.size) = some (pkC p).size) := hide (by rw [pkC_size hpk]; kernel_rfl)
 have Hk := hide hk
 have Hpk := hide hpk
 have Hm := hide hm
 have hfl := hm.fl
 have hrm := hm.rm
 clear h0 s0 hsb hLens hT hk hpk hm
 obtain ⟨d0, d1, d2, d3⟩ := lm_cells Hm.out _ _ _ (on_blk_mul H1.out)
 clear d0 d1 d3
 generalize zb sec = Ss at *
 generalize hP : pkC p = P at *
 have HP := hide hP
 clear hP
 generalize hM : lmC m = M at *
 have HM := hide hM
 clear hM
 generalize rpC p = R at *
 generalize signedB p = sb at *
 go_enter Tryz.func3, Tryz.ntmps3
 refine wp_seq_h fun K1 hK1 => ?_
 go_wp2
 refine hK1.out _ _ ?_
 clear hK1 K1
 generalize ((w.alloc (.cells Ss 22)).alloc (.cells P 28)).alloc (.cells M 31) = w1 at *
 refine wp_seq_h fun K1 hK1 => ?_
 go_wp2_with fail
 refine (Hlv.out _ (all_below H1.out.right.right.right S1.out)).mono ?_
 rintro e w2 ⟨rfl, hB⟩
 obtain ⟨H2, S2⟩ := nx H1.out S1.out hB
 clear hB H1 S1
 go_wp2
 refine hK1.out _ _ ?_
 clear hK1 K1
 have c34 := (lm_cells Hm.out _ _ _ (by rw [HM.out]; exact on_blk_mul H2.out)).2.2.1
 refine wp_seq_h fun K hK => ?_
 have HR : Hid (∀ (m2 : LmS) (_ : m2.Ok) (p2 : PkS) (_ : p2.Ok) (M2 P2 : Array Value) (_ : lmC m2 = M2) (_ : pkC p2 = P2) (w6 : World) (_ : (blk (w.heap.size + 1) (.cells P2 28 (0, 0)) * (blk (w.heap.size + 1 + 1) (.cells M2 31 (0, 0)) * (blk (w.heap.size) (.cells Ss 22 (0, 0)) * all w))).on w6) (_ : Str w w6) {u0 u1 u2 u6 u7 u8 u9 u10 u11 u12 u13 u14 u15 u16 u17 u18 u19 u20 u21 u22 u23 u24 u25 u26 u27 u28 u29 u30 u31 u32 u33 u34 u35 u36 u37 u38 u39 u40 u41 u42 u43 u44 u45 u46 u47 u48 u49 u50 u51 u52 u53 u54 u55 u56 u57 u58 u59 u60 u61 u62 u63 u64 u65 u66 u67 u68 u69 u70 u71 u72 u73 u74 u75 u76 : Value}, K ⟨#[u0, u1, u2, .pointer (some ⟨w.heap.size, 0, .none⟩), .pointer (some ⟨w.heap.size + 1, 0, .none⟩), .pointer (some ⟨w.heap.size + 1 + 1, 0, .none⟩), u6, u7, u8, u9, u10, u11, u12, u13, u14, u15, u16, u17, u18, u19, u20, u21, u22, u23, u24, u25, u26, u27, u28, u29, u30, u31, u32, u33, u34, u35, u36, u37, u38, u39, u40, u41, u42, u43, u44, u45, u46, u47, u48, u49, u50, u51, u52, u53, u54, u55, u56, u57, u58, u59, u60, u61, u62, u63, u64, u65, u66, u67, u68, u69, u70, u71, u72, u73, u74, u75, u76], []⟩ w6) := hide (by
  intro m2 hm2 p2 hp2 M2 P2 hM2 hP2 w6 h6 hs6
  intros
  refine hK.out _ _ ?_
  clear hK K c34 H2 S2
  have Hm2 := hide hm2
  have Hp2 := hide hp2
  have HM2 := hide hM2
  have HP2 := hide hP2
  have H6 := hide h6
  have S6 := hide hs6
  have hfl2 := hm2.fl
  have hrm2 := hm2.rm
  clear hm2 hp2 hM2 hP2 h6 hs6
  have c34 := (lm_cells Hm2.out _ _ _ (by rw [HM2.out]; exact on_blk_mul H6.out.right)).2.2.1
  refine wp_seq_h fun K3 hK3 => ?_
  have HsPc : Hid ((Tryz.prog.info? 28).map (·.size) = some P2.size) := hide (by rw [← HP2.out, pkC_size Hp2.out]; kernel_rfl)
  have HsMc : Hid ((Tryz.prog.info? 31).map (·.size) = some M2.size) := hide (by rw [← HM2.out, lmC_size Hm2.out]; kernel_rfl)
  have gP := on_blk_mul H6.out
  have hE := _root_.Go.Proofs.YtjdebgbiockafaaGreatDoor.pencode_any p2 Hp2.out w6
  rw [HP2.out] at hE
  go_wp2_with (refine wL gP hup HsPc ?_)
  refine hE.mono ?_
  clear hE gP
  rintro e w7 ⟨v, rfl, ho, hs⟩
  obtain ⟨og, oc, rfl, hoc, hmc⟩ := own_block ho (by rw [pkB_len Hp2.out]; decide)
  have H7 := hide (on_all_to ho H6.out)
  have S7 := hide (S6.out.trans hs)
  have hbl := pkB_len Hp2.out
  obtain ⟨b, hb⟩ : ∃ b, b = pkB p2 := ⟨_, rfl⟩
  have H7 : Hid ((own 5 1 (.slice (some ⟨og, 0, .none⟩) 121 oc) 121 (vbs b) * (blk (w.heap.size + 1) (.cells P2 28 (0, 0)) * (blk (w.heap.size + 1 + 1) (.cells M2 31 (0, 0)) * (blk (w.heap.size) (.cells Ss 22 (0, 0)) * all w)))).on w7) := hide (by have := H7.out; unfold ownT at this; rw [hbl, ← hb] at this; exact this)
  rw [hbl] at hoc ⊢
  rw [← hb] at hbl
  unfold maxLen at hmc
  have Hbl := hide hbl
  have c35 := (lm_cells Hm2.out _ _ _ (by rw [HM2.out]; exact on_blk_mul H7.out.right.right)).2.2.2
  clear ho hs hb hbl H6 S6
  go_wp2
  refine hK3.out _ _ ?_
  clear hK3 K3
  refine wp_seq_h fun K hK => ?_
  have HT : Hid (∀ (b : List UInt8) (_ : b.length = 121) (w7 : World) (_ : (own 5 1 (.slice (some ⟨og, 0, .none⟩) 121 oc) 121 (vbs b) * (blk (w.heap.size + 1) (.cells P2 28 (0, 0)) * (blk (w.heap.size + 1 + 1) (.cells M2 31 (0, 0)) * (blk (w.heap.size) (.cells Ss 22 (0, 0)) * all w)))).on w7) (_ : Str w w7) {u0 u1 u2 u6 u8 u9 u10 u11 u12 u13 u14 u15 u16 u17 u18 u19 u20 u21 u22 u23 u24 u25 u26 u27 u28 u29 u30 u31 u32 u33 u34 u35 u36 u37 u38 u39 u40 u41 u42 u43 u44 u45 u46 u47 u48 u49 u50 u51 u52 u53 u54 u55 u56 u57 u58 u59 u60 u61 u62 u63 u64 u65 u66 u67 u68 u69 u70 u71 u72 u73 u74 u75 u76 : Value}, K ⟨#[u0, u1, u2, .pointer (some ⟨w.heap.size, 0, .none⟩), .pointer (some ⟨w.heap.size + 1, 0, .none⟩), .pointer (some ⟨w.heap.size + 1 + 1, 0, .none⟩), u6, .slice (some ⟨og, 0, .none⟩) 121 oc, u8, u9, u10, u11, u12, u13, u14, u15, u16, u17, u18, u19, u20, u21, u22, u23, u24, u25, u26, u27, u28, u29, u30, u31, u32, u33, u34, u35, u36, u37, u38, u39, u40, u41, u42, u43, u44, u45, u46, u47, u48, u49, u50, u51, u52, u53, u54, u55, u56, u57, u58, u59, u60, u61, u62, u63, u64, u65, u66, u67, u68, u69, u70, u71, u72, u73, u74, u75, u76], []⟩ w7) := hide (by
   intro b hb w7 h7 hs7
   intros
   refine hK.out _ _ ?_
   clear hK K H7 S7 Hbl
   have Hbl := hide hb
   have H7 := hide h7
   have S7 := hide hs7
   clear hb h7 hs7
   have Hln := Hbl
   have gM := on_blk_mul H7.out.right.right
   go_wp2_with (first
    | (refine wL gM hum HsMc ?_))
   clear c34 c35
   have hE := Hchk.out m2 Hm2.out (.slice (some ⟨og, 0, .none⟩) 121 oc) b _ (own_bytes H7.out) (by rw [Hln.out]; decide) (all_below H7.out.right.right.right.right S7.out)
   have hF := fun X h => rcheck_any (.slice (some ⟨og, 0, .none⟩) 121 oc) b m2 Hm2.out X h (by rw [Hln.out]; decide)
   unfold PkEnd at hE hF
   rw [HM2.out] at hE hF
   have hqk := chk_ok b m2
   obtain ⟨⟨q, en⟩, hR⟩ : ∃ R, R = chkP b m2 := ⟨_, rfl⟩
   rw [← hR] at hE hF hqk
   have HF := hide hF
   have Hqk := hide hqk
   have HsQ : Hid ((Tryz.prog.info? 28).map (·.size) = some (pkC q).size) := hide (by rw [pkC_size hqk]; kernel_rfl)
   have HzQ : Hid ((pkC zP).size = (pkC q).size) := hide (by rw [pkC_size zP_ok, pkC_size hqk])
   have HoQ := hide (pkC_one q)
   have HsRQ : Hid ((Tryz.prog.info? 38).map (·.size) = some (rpC q).size) := hide (by rw [rpC_size hqk]; kernel_rfl)
   have HzRQ : Hid ((rpC zP).size = (rpC q).size) := hide (by rw [rpC_size zP_ok, rpC_size hqk])
   have HoRQ := hide (rpC_one q)
   have Hofq := hide (fun X => of12_any q hqk X)
   have Heq := hide (fun X => eq_rp X q hqk)
   have hz := hzP
   have hz2 := hzR
   clear hR hF hqk gM
   dsimp only at hE
   generalize pkC q = Q at *
   generalize rpC q = RQ at *
   generalize hZ : pkC zP = Z at *
   generalize hZ2 : rpC zP = Z2 at *
   clear hZ hZ2
   refine hE.mono ?_
   clear hE
   rintro e w8 ⟨rfl, hB⟩
   obtain ⟨H8, S8⟩ := nx H7.out S7.out hB
   clear hB H7 S7
   obtain ⟨gN, gM, H9, S9⟩ := newV H8.out S8.out Z Q 28
   have gM := on_blk_mul H9.out.right.right.right
   have hkey := lm_key Hm2.out _ _ _ (by rw [HM2.out]; exact gM)
   obtain ⟨d0, d1, d2, d3⟩ := lm_cells Hm2.out _ _ _ (by rw [HM2.out]; exact gM)
   have HsK : Hid ((Tryz.prog.info? 29).map (·.size) = some (zb m2.key).size) := hide (by rw [show (zb m2.key).size = 32 by simp [zb, vbs, Hm2.out.key]]; kernel_rfl)
   have Hbl0 := hide (rl_build m2 Hm2.out)
   rw [HM2.out] at Hbl0
   generalize zb m2.key = Kk at *
   go_wp2_with (first
    | (refine wS gN HsQ HzQ HoQ ?_)
    | (refine wpList_load_part rfl _ _ rfl (w.heap.size + 1 + 1) 0 rfl Kk _ hkey huK rfl HsK ?_)
    | (refine wpList_build_rl rfl _ _ _ _ _ rfl Kk M2 _ _ _ _ (Hbl0.out _) rfl rfl rfl rfl rfl ?_))
   clear gM hkey d0 d1 d2 d3
   generalize (w8.alloc (.cells Z 28)).setRow w8.heap.size Q = w9 at *
   clear gN gM H8 S8
   generalize w8.heap.size = gq at *
   refine (HF.out _ (own_bytes H9.out.right)).mono ?_
   rintro e w10 ⟨rfl, hB⟩
   obtain ⟨H10, S10⟩ := nx H9.out S9.out hB
   clear hB H9 S9 HF
   obtain ⟨gN, gM, H11, S11⟩ := newV H10.out S10.out Z2 RQ 38
   go_wp2_with (first
    | (refine wS gN HsRQ HzRQ HoRQ ?_))
   generalize (w10.alloc (.cells Z2 38)).setRow w10.heap.size RQ = w11 at *
   clear gN gM H10 S10
   generalize w10.heap.size = gr at *
   refine rG (iv [.int .i64 ((en : Nat) : Int), .int .i64 ((en : Nat) : Int), .bool true, .bool true, .agg Q, .agg RQ, .agg RQ, .bool true, .bool true, .bool true]) ?t60 ?r72
   case' t60 => refine ⟨?_, ?_, ?_, ?_, ?_, ?_, ?_, ?_, ?_, ?_, trivial⟩ <;> intro ev X hT hb hk hf
   ·exact OpOk.m rfl hk.1
   ·exact OpOk.m rfl hk.1
   ·exact OpOk.r (by simp [execOp, fX ev 68 hf.1, fX ev 69 hf.2.1, go_sem])
   ·exact OpOk.m rfl hf.1
   ·refine .inl ⟨true, hf.1, fun _ => ?_, fun h => (h rfl).elim⟩
    exact OpOk.l (fV ev 8 (.pointer (some ⟨gq, 0, .none⟩)) hk.1) (on_blk_mul (H11.out.below hT).right) hup HsQ.out
   ·refine .inl ⟨true, hf.2.1, fun _ => ?_, fun h => (h rfl).elim⟩
    exact OpOk.c1 (fX ev 72 hf.1) hb (Hofq.out X)
   ·refine .inl ⟨true, hf.1, fun _ => ?_, fun h => (h rfl).elim⟩
    exact OpOk.l (fV ev 10 (.pointer (some ⟨gr, 0, .none⟩)) hk.1) (on_blk_mul (H11.out.below hT)) hur HsRQ.out
   ·refine .inl ⟨true, hf.2.2.1, fun _ => ?_, fun h => (h rfl).elim⟩
    exact OpOk.run (v := .bool true) (W' := X) (by
     unfold execOp
     simp only [fX ev 73 hf.1, fX ev 74 hf.2.1, Sem.run_bind, run_eqGuard_agg X _ _ _ _ _ _ HgdN.out, run_eql_struct, Heq.out X, Result.andThen_ok]
     rfl) ⟨rfl, Stay.refl _⟩
   ·exact OpOk.s2 (fX ev 71 hf.1) (fX ev 75 hf.2.1) hb
   ·exact OpOk.assign rfl (fX ev 76 hf.1) ⟨rfl, Stay.refl _⟩
   intro w12 hX
   iterate 10 rintro _ rfl
   obtain ⟨H12, S12⟩ := nx H11.out S11.out hX
   clear hX H11 S11
   go_wp2
   refine Rest.done ?_
   have HB := hide (all_below H12.out.right.right.right.right.right.right S12.out)
   go_wp2
   go_ret
   exact ⟨rfl, HB.out⟩)
  clear hK
  by_cases h5 : m2.rm % 5 = 0
  ·have e5 : (((m2.rm : Nat) : Int) % 5 == 0) = true := by simp only [beq_iff_eq]; omega
   clear h5
   go_wp2_with fail
   obtain ⟨i, hi, hq2⟩ : ∃ i : Nat, i < 121 ∧ ((m2.fl : Nat) : Int).tmod 121 = (i : Int) := ⟨m2.fl % 121, by omega, by rw [Int.tmod_eq_emod_of_nonneg (by omega)]; omega⟩
   obtain ⟨k, hk8, hq8⟩ : ∃ k : Nat, k < 8 ∧ ((m2.rm : Nat) : Int).tmod 8 = (k : Int) := ⟨m2.rm % 8, by omega, by rw [Int.tmod_eq_emod_of_nonneg (by omega)]; omega⟩
   have hp := pow_wrap k hk8
   have Hxr := hide (fun x => tb_run x k hk8)
   generalize hpw2 : 2 ^ k = pw at hp Hxr
   clear hpw2
   have hpw : IntKind.u8.wrap ((2 : Int) ^ k) = (pw : Int) := by rw [IntKind.wrap_u8]; exact hp
   have Hpw := hide hpw
   clear hp hpw
   obtain ⟨x, hx⟩ : ∃ x, b[i]? = some x := ⟨_, List.getElem?_eq_getElem (by rw [Hbl.out]; exact hi)⟩
   have hcx : (vbs b)[i]? = some (vb x) := by simp only [vbs, List.getElem?_map, hx, Option.map_some]
   have Hxr2 := hide (Hxr.out x)
   have hvs : (vbs b).set i (vb (tb x k)) = vbs (b.set i (tb x k)) := by simp [vbs, List.map_set]
   have Hln := hide (show (b.set i (tb x k)).length = 121 by rw [List.length_set]; exact Hbl.out)
   have Hvs := hide hvs
   have Hcx := hide hcx
   generalize hN2 : b.set i (tb x k) = nL at *
   generalize tb x k = y at *
   have hiI : (i : Int) < 121 := by omega
   have Hq2 := hide hq2
   have Hq8 := hide hq8
   have Hi := hide hi
   clear hx hcx hN2 hvs hq2 hq8
   have s9 : IntKind.i64.wrap (i : Int) = (i : Int) := IntWalk.i64_in _ (by omega)
   refine wp_tail 13 (iv [.slice (some ⟨og, 0, .none⟩) 121 oc, .pointer (some ⟨w.heap.size + 1 + 1, 34, .none⟩), .int .u32 (m2.fl : Nat), .int .u32 (i : Int), .int .i64 (i : Int), .pointer (some ⟨og, i, .none⟩), vb x, .pointer (some ⟨w.heap.size + 1 + 1, 35, .none⟩), .int .u32 (m2.rm : Nat), .int .u32 (k : Int), .int .u8 (pw : Int), vb y, .pointer (some ⟨og, i, .none⟩)]) ?t61 ?r73
   case' t61 => refine ⟨?_, ?_, ?_, ?_, ?_, ?_, ?_, ?_, ?_, ?_, ?_, ?_, ?_, trivial⟩ <;> intro ev X hT hb hk hf
   ·exact OpOk.m rfl hk.1
   ·exact OpOk.r (by simp [execOp, fV ev 5 (.pointer (some ⟨w.heap.size + 1 + 1, 0, .none⟩)) hk.1, hb.1, hum, go_sem])
   ·have cW := (lm_cells Hm2.out X _ _ (by rw [HM2.out]; exact on_blk_mul (H7.out.below hT).right.right)).2.2.1
    exact OpOk.sc (fX ev 34 hf.1) cW
   ·exact OpOk.r (by have h9 := Hq2.out; simp [execOp, fX ev 35 hf.1, hb.1, h9, go_sem])
   ·exact OpOk.r (by simp [execOp, fX ev 36 hf.1, hb.1, hui, hu32, s9, go_sem])
   ·exact OpOk.r (by simp [execOp, fX ev 33 hf.1, fX ev 37 hf.2.1, hb.1, hu8s, hiI, go_sem]; try (intro h; omega))
   ·have cW := own_cell (H7.out.below hT) i (vb x) Hcx.out
    exact OpOk.sc (fX ev 38 hf.1) cW
   ·exact OpOk.r (by simp [execOp, fV ev 5 (.pointer (some ⟨w.heap.size + 1 + 1, 0, .none⟩)) hk.1, hb.1, hum, go_sem])
   ·have cW := (lm_cells Hm2.out X _ _ (by rw [HM2.out]; exact on_blk_mul (H7.out.below hT).right.right)).2.2.2
    exact OpOk.sc (fX ev 40 hf.1) cW
   ·exact OpOk.r (by have h9 := Hq8.out; simp [execOp, fX ev 41 hf.1, hb.1, h9, go_sem])
   ·exact OpOk.r (by have h9 := Hpw.out; simp [execOp, fX ev 42 hf.1, hb.1, hk8, h9, go_sem])
   ·exact OpOk.r (by have h9 := Hxr2.out; simp [execOp, fX ev 39 hf.1, fX ev 43 hf.2.1, h9, go_sem])
   ·exact OpOk.r (by simp [execOp, fX ev 33 hf.1, fX ev 37 hf.2.1, hb.1, hu8s, hiI, go_sem]; try (intro h; omega))
   intro w8 hX
   iterate 13 rintro _ rfl
   obtain ⟨H8, S8⟩ := nx H7.out S7.out hX
   clear hX H7 S7
   go_wp2
   refine Rest.done ?_
   have hcell := own_cell H8.out i (vb x) Hcx.out
   have hfz := own_free H8.out i
   have hst := own_store H8.out (j := i) Hi.out (vb y)
   rw [Hvs.out] at hst
   have H9 := hide hst
   have S9 := hide (S8.out.setCell ⟨og, i, .none⟩ (vb y))
   clear hst
   go_wp2
   exact HT.out nL Hln.out _ H9.out S9.out
  have e5 : (((m2.rm : Nat) : Int) % 5 == 0) = false := by simp only [beq_eq_false_iff_ne]; omega
  clear h5
  go_wp2
  exact HT.out b Hbl.out _ H7.out S7.out)
 clear hK
 by_cases hev : m.fl % 2 = 0
 ·have e2 : (((m.fl : Nat) : Int) % 2 == 0) = true := by simp only [beq_iff_eq]; omega
  clear hev
  have gS := on_blk_mul H2.out.right.right
  go_wp2_with (first
   | (refine wL gS hub HsSs ?_))
  clear gS
  refine (Hpub.out _).mono ?_
  rintro e w3 ⟨rfl, hB⟩
  obtain ⟨H3, S3⟩ := nx H2.out S2.out hB
  clear hB H2 S2
  obtain ⟨kk, hkk⟩ : ∃ k, k = pubL sec := ⟨_, rfl⟩
  have lkk : kk.length = 32 := by rw [hkk]; exact pubL_len _
  rw [← hkk]
  obtain ⟨m2, hm2⟩ : ∃ m' : LmS, m' = { m with key := kk } := ⟨_, rfl⟩
  have Hm2 : Hid m2.Ok := hide (by rw [hm2]; exact ⟨lkk, Hm.out.hw, Hm.out.fl, Hm.out.rm⟩)
  have HN2 := hide (show (lmC m).toList.take 0 ++ vbs kk ++ (lmC m).toList.drop (0 + (vbs kk).length) = (lmC m2).toList by rw [hm2]; exact lm_new_key m Hm.out.key kk lkk)
  have hfl2 : m2.fl = m.fl := by rw [hm2]
  have hrm2 : m2.rm = m.rm := by rw [hm2]
  have HszM := hide (lmC_size Hm.out)
  have HiK : Hid ((Tryz.prog.info? 29).map (·.size) = some (vbs kk).length) := hide (by rw [show (vbs kk).length = 32 by simp [lkk]]; kernel_rfl)
  have HlK : Hid (0 + (vbs kk).length ≤ M.size) := hide (by rw [← HM.out, HszM.out, show (vbs kk).length = 32 by simp [lkk]]; decide)
  have HoK := hide (vbs_one kk)
  rw [HM.out] at HN2
  clear hm2 hkk lkk HszM
  generalize hM2 : lmC m2 = M2 at *
  have HM2 := hide hM2
  clear hM2
  have gS := on_blk_mul H3.out.right.right
  have gP := on_blk_mul H3.out.right
  rw [← hfl2] at hfl
  rw [← hrm2] at hrm
  clear hfl2 hrm2
  go_wp2_with (first
   | (refine wpList_store_sp (F := (blk (w.heap.size + 1) (.cells P 28 (0, 0)) * (blk (w.heap.size) (.cells Ss 22 (0, 0)) * all w))) rfl _ _ _ rfl (w.heap.size + 1 + 1) 0 (vbs kk) rfl rfl _ M H3.out HiK.out HlK.out HoK.out M2 HN2.out ?_; intro w4 h4 hs4; have H4 := hide h4; have S4 := hide (S3.out.trans hs4); clear h4 hs4 gS gP H3 S3))
  obtain ⟨sg, hsg⟩ : ∃ s, s = sigL sec sb := ⟨_, rfl⟩
  have lsg : sg.length = 64 := by rw [hsg]; exact sigL_len _ _
  rw [← hsg] at Hsign
  obtain ⟨p2, hp2⟩ : ∃ p' : PkS, p' = { p with sig := sg } := ⟨_, rfl⟩
  have Hp2 : Hid p2.Ok := hide (by rw [hp2]; exact ⟨Hpk.out.hw, Hpk.out.ver, Hpk.out.sz, Hpk.out.hash, lsg⟩)
  have HN3 := hide (show (pkC p).toList.take 36 ++ vbs sg ++ (pkC p).toList.drop (36 + (vbs sg).length) = (pkC p2).toList by rw [hp2]; exact pk_new_sig p Hpk.out sg lsg)
  have HiG : Hid ((Tryz.prog.info? 26).map (·.size) = some (vbs sg).length) := hide (by rw [show (vbs sg).length = 64 by simp [lsg]]; kernel_rfl)
  have HlG : Hid (36 + (vbs sg).length ≤ P.size) := hide (by rw [← HP.out, pkC_size Hpk.out, show (vbs sg).length = 64 by simp [lsg]]; decide)
  have HoG := hide (vbs_one sg)
  rw [HP.out] at HN3
  clear hp2 hsg lsg
  generalize hP2 : pkC p2 = P2 at *
  have HP2 := hide hP2
  clear hP2
  refine wp_tail 6 [isV (.agg Ss), isV (.agg P), isV (.agg R), fun v X => IsBytes X v sb, isV (.agg (zb sg)), isV (.pointer (some ⟨w.heap.size + 1, 36, .none⟩))] ?t62 ?r74 (hk := ?keep)
  case keep => exact ⟨Keep.isV _, Keep.isV _, Keep.isV _, fun _ _ _ h k => IsBytes.below h k, Keep.isV _, Keep.isV _, trivial⟩
  case' t62 => refine ⟨?_, ?_, ?_, ?_, ?_, ?_, trivial⟩ <;> intro ev X hT hb hk hf
  ·exact OpOk.l (x := .tmp 3) hk.1 (on_blk_mul (H4.out.below hT).right.right) hub HsSs.out
  ·exact OpOk.l (x := .tmp 4) hk.1 (on_blk_mul (H4.out.below hT).right) hup HsP.out
  ·exact OpOk.c1 (fX ev 22 hf.1) hb (Hof.out X)
  ·refine OpOk.enters (by simp [execOp, resolve, invoke, fX ev 23 hf.1, hb.1, hb.2.1, go_sem]) ((HrS.out X).mono ?_)
   rintro e X2 ⟨v5, rfl, h5, h6⟩
   exact ⟨_, rfl, own_bytes h5, all_below h5.right h6⟩
  ·have e1 : IsBytes X (ev (.tmp 24)) sb := hf.2.1
   exact OpOk.c1 (fX ev 21 hf.1) hb (Hsign.out _ X e1)
  ·exact OpOk.r (by simp [execOp, fV ev 4 (.pointer (some ⟨w.heap.size + 1, 0, .none⟩)) hk.1, hb.1, hup, go_sem])
  intro w5 hX
  rintro _ rfl _ rfl _ rfl _ - _ rfl _ rfl
  obtain ⟨H5, S5⟩ := nx H4.out S4.out hX
  clear hX H4 S4
  go_wp2
  refine Rest.done ?_
  have h9 := H5.out
  rw [show (blk (w.heap.size + 1 + 1) (.cells M2 31 (0, 0)) * (blk (w.heap.size + 1) (.cells P 28 (0, 0)) * (blk (w.heap.size) (.cells Ss 22 (0, 0)) * all w))) = (blk (w.heap.size + 1) (.cells P 28 (0, 0)) * (blk (w.heap.size + 1 + 1) (.cells M2 31 (0, 0)) * (blk (w.heap.size) (.cells Ss 22 (0, 0)) * all w))) by ac_rfl] at h9
  go_wp2_with (first
   | (refine wpList_store_sp (F := (blk (w.heap.size + 1 + 1) (.cells M2 31 (0, 0)) * (blk (w.heap.size) (.cells Ss 22 (0, 0)) * all w))) rfl _ _ _ rfl (w.heap.size + 1) 36 (vbs sg) rfl rfl _ P h9 HiG.out HlG.out HoG.out P2 HN3.out ?_; intro w6 h10 hs10; have H6 := hide h10; have S6 := hide (S5.out.trans hs10); clear h10 hs10 h9 H5 S5))
  exact HR.out m2 Hm2.out p2 Hp2.out M2 P2 HM2.out HP2.out _ H6.out S6.out
 have e2 : (((m.fl : Nat) : Int) % 2 == 0) = false := by simp only [beq_eq_false_iff_ne]; omega
 clear hev
 have h2 := H2.out
 rw [SP.mul_left_comm] at h2
 go_wp2
 exact HR.out m Hm.out p Hpk.out M P HM.out HP.out _ h2 S2.out
end Cv
open Go.ChangeShapes Go.WideShapes Go.ChangeAt Go.RowKit
theorem walk_PacketChecks (w : World) (hL : laidMetH Tryz.prog Rows.packetChecksRow.laid w) (sec : List UInt8) (hk : sec.length = 32) (p : PkS) (hpk : p.Ok) (m : Cv.LmS) (hm : m.Ok) :
  Calls Tryz.prog 3 #[.agg (zb sec), .agg (pkC p), .agg (Cv.lmC m)] w fun e w' => e = .returned (.bool true) ∧ Below w.heap.size w w' := by
 have h0 : laidMetH Tryz.prog [("bosun/field.modulus", Rows.laid_bosun_field_modulus), ("bosun/field.lessTwo", Rows.laid_bosun_field_lessTwo), ("bosun/field.eighth", Rows.laid_bosun_field_eighth), ("bosun/field.rootOfMinusOne", Rows.laid_bosun_field_rootOfMinusOne), ("bosun/longsum.first", Rows.laid_bosun_longsum_first), ("bosun/longsum.rounds", Rows.laid_bosun_longsum_rounds), ("bosun/scalar.order", Rows.laid_bosun_scalar_order), ("bosun/curve.d", Rows.laid_bosun_curve_d), ("bosun/curve.dTwice", Rows.laid_bosun_curve_dTwice), ("bosun/curve.baseX", Rows.laid_bosun_curve_baseX), ("bosun/curve.baseY", Rows.laid_bosun_curve_baseY), ("bosun/packet.lengths", Rows.laid_bosun_packet_lengths)] w := hL
 rw [MakeChecks.laidMetH_plain _ _ _ (by kernel_rfl)] at h0
 have h1 : laidMet Tryz.prog [("bosun/packet.lengths", Rows.laid_bosun_packet_lengths)] w := laidMet.filter (fun x => x.1 == "bosun/packet.lengths") h0
 have h2 : laidMet Tryz.prog [("bosun/field.modulus", Rows.laid_bosun_field_modulus), ("bosun/field.lessTwo", Rows.laid_bosun_field_lessTwo), ("bosun/field.eighth", Rows.laid_bosun_field_eighth), ("bosun/field.rootOfMinusOne", Rows.laid_bosun_field_rootOfMinusOne), ("bosun/longsum.first", Rows.laid_bosun_longsum_first), ("bosun/longsum.rounds", Rows.laid_bosun_longsum_rounds), ("bosun/scalar.order", Rows.laid_bosun_scalar_order), ("bosun/curve.d", Rows.laid_bosun_curve_d), ("bosun/curve.dTwice", Rows.laid_bosun_curve_dTwice), ("bosun/curve.baseX", Rows.laid_bosun_curve_baseX), ("bosun/curve.baseY", Rows.laid_bosun_curve_baseY)] w := laidMet.filter (fun x => x.1 != "bosun/packet.lengths") h0
 refine Cv.pc_walk w (lens_of_laid ?_) (Cv.tab_sign ?_) sec hk p hpk m hm
 ·rw [MakeChecks.laidMetH_plain _ _ _ (by kernel_rfl)]
  exact h1
 rw [MakeChecks.laidMetH_plain _ _ _ (by kernel_rfl)]
 exact h2
namespace lawPacketChecks
theorem own : ownKnob Tryz.prog.godebug = Option.none := by kernel_rfl
theorem laidOut : laidOutB Tryz.prog = true := by kernel_rfl
theorem contract (H : Type) (enc : TypeId × Value → H) (W : World) (base : Nat) (args : Array Value) (ds gs : List (DataW H)) (before : List MemPlace)
  (hval0 : ∀ (j : Nat) t v, Tryz.f3.params[j]? = some t → args[j]? = some v → Value.okWide Tryz.prog W .any base t v)
  (hW : DataW.Whole enc Tryz.prog Tryz.f3.params.toList Rows.packetChecksSpec.vars false W args.toList ds gs before) (hsz : (DataW.weightsEach Tryz.prog (Tryz.f3.params.toList ++ (OpenSpec.ofChange Rows.packetChecksSpec).bare.plain.varTypes Tryz.prog) (ds ++ gs)).all (· ≤ reachBytes) = true) (hL : laidMetH Tryz.prog Rows.packetChecksRow.laid W) :
  Calls Tryz.prog 3 args W fun e W' => ∃ v, e = .returned v ∧ Rows.packetChecksSpec.post enc Tryz.prog Tryz.f3 false true false false W args v W' := by
 have hval : ∀ (j : Nat) t v, Tryz.f3.params[j]? = some t → args[j]? = some v → Value.okWide Tryz.prog W .any base t v := hval0
 have hW' := hW
 obtain ⟨p, q, hA0, hV, rfl, hfz, hnd⟩ := hW
 have hA : DataW.TrodAll enc Tryz.prog W 0 (fun _ => true) true Tryz.f3.params.toList args.toList ds p := hA0
 rw [Tryz.params3] at hA hval
 obtain ⟨v0, vs0, d0, ds0, p0, q0, hargs, rfl, rfl, h0, r0⟩ := trodAll_cons hA
 obtain ⟨v1, vs1, d1, ds1, p1, q1, rfl, rfl, rfl, h1, r1⟩ := trodAll_cons r0
 obtain ⟨v2, vs2, d2, ds2, p2, q2, rfl, rfl, rfl, h2, r2⟩ := trodAll_cons r1
 obtain ⟨rfl, rfl, rfl⟩ := trodAll_nil r2
 obtain rfl : args = #[v0, v1, v2] := by cases args; simp_all
 obtain ⟨rfl, rfl⟩ := trodVars_none hV
 have k0 := h0
 have lt0 : ∀ x ∈ p0, x.block < W.heap.size := by obtain ⟨m, hm⟩ := k0; exact DataW.trod_lt m _ _ _ hm
 obtain ⟨s0, rfl, b0⟩ := open_b32 (hval 0 22 v0 rfl rfl) h0
 have k1 := h1
 have lt1 : ∀ x ∈ p1, x.block < W.heap.size := by obtain ⟨m, hm⟩ := k1; exact DataW.trod_lt m _ _ _ hm
 obtain ⟨s1, rfl, nn1⟩ := open_pk (hval 1 28 v1 rfl rfl) h1
 have k2 := h2
 have lt2 : ∀ x ∈ p2, x.block < W.heap.size := by obtain ⟨m, hm⟩ := k2; exact DataW.trod_lt m _ _ _ hm
 obtain ⟨s2, rfl, nn2⟩ := Cv.open_lm (hval 2 31 v2 rfl rfl) h2
 clear hA0 hval0 hsz
 refine (walk_PacketChecks W hL s0 b0 s1 nn1 s2 nn2).mono fun e W' ⟨he, bel⟩ => ?_
 subst he
 exact ⟨_, rfl, _, _, _, [], _, [], hW', trodAll_mk1 (shut_bool Tryz.underlying4 _), (trodAll_cons_mk (Below.trod laidOut (by kernel_rfl) (of_decide_eq_true (by kernel_rfl)) k0 bel lt0) (trodAll_cons_mk (Below.trod laidOut (by kernel_rfl) (of_decide_eq_true (by kernel_rfl)) k1 bel lt1) (trodAll_cons_mk (Below.trod laidOut (by kernel_rfl) (of_decide_eq_true (by kernel_rfl)) k2 bel lt2) trodAll_mk0))), rfl, bel.frame _, fun h => by cases h⟩
def litCells (d : DataW Unit) : Array Value := match d with
 | .agg l => (l.filterMap fun x => match x with | .lit (.int k n) => some (Value.int k n) | _ => Option.none).toArray
 | _ => #[]
noncomputable def laidWorld (os : Os) : World :=
 { World.holding Tryz.prog os ⟨#[], #[], []⟩ with heap := (((((((((((((World.holding Tryz.prog os ⟨#[], #[], []⟩).heap.modify 6 fun
   | .cells _ t frozen => .cells (litCells Rows.laid_bosun_field_modulus) t frozen
   | o => o).modify 7 fun
   | .cells _ t frozen => .cells (litCells Rows.laid_bosun_field_lessTwo) t frozen
   | o => o).modify 8 fun
   | .cells _ t frozen => .cells (litCells Rows.laid_bosun_field_eighth) t frozen
   | o => o).modify 9 fun
   | .cells _ t frozen => .cells (litCells Rows.laid_bosun_field_rootOfMinusOne) t frozen
   | o => o).modify 10 fun
   | .cells _ t frozen => .cells (litCells Rows.laid_bosun_longsum_first) t frozen
   | o => o).modify 11 fun
   | .cells _ t frozen => .cells (litCells Rows.laid_bosun_longsum_rounds) t frozen
   | o => o).modify 4 fun
   | .cells _ t frozen => .cells (litCells Rows.laid_bosun_scalar_order) t frozen
   | o => o).modify 3 fun
   | .cells _ t frozen => .cells (litCells Rows.laid_bosun_curve_d) t frozen
   | o => o).modify 5 fun
   | .cells _ t frozen => .cells (litCells Rows.laid_bosun_curve_dTwice) t frozen
   | o => o).modify 1 fun
   | .cells _ t frozen => .cells (litCells Rows.laid_bosun_curve_baseX) t frozen
   | o => o).modify 2 fun
   | .cells _ t frozen => .cells (litCells Rows.laid_bosun_curve_baseY) t frozen
   | o => o).modify 0 fun
   | .cells _ t frozen => .cells (litCells Rows.laid_bosun_packet_lengths) t frozen
   | o => o) }
theorem laid_met (os : Os) : laidMet Tryz.prog Rows.packetChecksRow.laid ((laidWorld os).forCall (fun _ _ => 0) ⟨#[], #[.agg #[.int .u8 0, .int .u8 0, .int .u8 0, .int .u8 0, .int .u8 0, .int .u8 0, .int .u8 0, .int .u8 0, .int .u8 0, .int .u8 0, .int .u8 0, .int .u8 0, .int .u8 0, .int .u8 0, .int .u8 0, .int .u8 0, .int .u8 0, .int .u8 0, .int .u8 0, .int .u8 0, .int .u8 0, .int .u8 0, .int .u8 0, .int .u8 0, .int .u8 0, .int .u8 0, .int .u8 0, .int .u8 0, .int .u8 0, .int .u8 0, .int .u8 0, .int .u8 0], .agg (pkC zP), .agg (Cv.lmC Cv.zLm)], []⟩).memory :=
 laidMet_of_run' 8 (by kernel_rfl) (by kernel_rfl)
theorem reads (os : Os) {H : Type} (enc : TypeId × Value → H) : ∃ places, DataW.whole enc Tryz.prog ((laidWorld os).forCall (fun _ _ => 0) ⟨#[], #[.agg #[.int .u8 0, .int .u8 0, .int .u8 0, .int .u8 0, .int .u8 0, .int .u8 0, .int .u8 0, .int .u8 0, .int .u8 0, .int .u8 0, .int .u8 0, .int .u8 0, .int .u8 0, .int .u8 0, .int .u8 0, .int .u8 0, .int .u8 0, .int .u8 0, .int .u8 0, .int .u8 0, .int .u8 0, .int .u8 0, .int .u8 0, .int .u8 0, .int .u8 0, .int .u8 0, .int .u8 0, .int .u8 0, .int .u8 0, .int .u8 0, .int .u8 0, .int .u8 0], .agg (pkC zP), .agg (Cv.lmC Cv.zLm)], []⟩).memory Tryz.f3.params.toList Rows.packetChecksSpec.vars false (#[.agg #[.int .u8 0, .int .u8 0, .int .u8 0, .int .u8 0, .int .u8 0, .int .u8 0, .int .u8 0, .int .u8 0, .int .u8 0, .int .u8 0, .int .u8 0, .int .u8 0, .int .u8 0, .int .u8 0, .int .u8 0, .int .u8 0, .int .u8 0, .int .u8 0, .int .u8 0, .int .u8 0, .int .u8 0, .int .u8 0, .int .u8 0, .int .u8 0, .int .u8 0, .int .u8 0, .int .u8 0, .int .u8 0, .int .u8 0, .int .u8 0, .int .u8 0, .int .u8 0], .agg (pkC zP), .agg (Cv.lmC Cv.zLm)] : Array Value).toList 8 = some ([.agg (List.replicate 32 (.lit (.int .u8 0))), .agg [.lit (.int .u32 0), .lit (.int .u8 0), .lit (.int .u32 0), .lit (.int .u32 0), .agg (List.replicate 32 (.lit (.int .u8 0))), .agg (List.replicate 64 (.lit (.int .u8 0)))], .agg [.agg (List.replicate 32 (.lit (.int .u8 0))), .lit (.int .u32 0), .lit (.int .u8 0), .lit (.int .u32 0), .lit (.int .u32 0)]], [], places) :=
 ⟨[], by kernel_rfl⟩
theorem lifted (os : Os) (started : os.Started) (H : Type) (enc : TypeId × Value → H) (F : Stop.Interp) :
  ReturnsInHanded {} Tryz.checked os 3 .any ((OpenSpec.ofChange Rows.packetChecksSpec).preRow enc Tryz.prog Tryz.f3 Rows.packetChecksRow.domain false Rows.packetChecksRow.laid) (((OpenSpec.ofChange Rows.packetChecksSpec).at F).post enc Tryz.prog Tryz.f3 false true false false) := by
 obtain ⟨places, hx⟩ := reads os enc
 refine returnsInHanded_of_row (C := Tryz.checked) (s := OpenSpec.ofChange Rows.packetChecksSpec) own started (by kernel_rfl) Tryz.func3
  (witness_row_at (enc := enc) (C := Tryz.checked) false (laidWorld os) #[.agg #[.int .u8 0, .int .u8 0, .int .u8 0, .int .u8 0, .int .u8 0, .int .u8 0, .int .u8 0, .int .u8 0, .int .u8 0, .int .u8 0, .int .u8 0, .int .u8 0, .int .u8 0, .int .u8 0, .int .u8 0, .int .u8 0, .int .u8 0, .int .u8 0, .int .u8 0, .int .u8 0, .int .u8 0, .int .u8 0, .int .u8 0, .int .u8 0, .int .u8 0, .int .u8 0, .int .u8 0, .int .u8 0, .int .u8 0, .int .u8 0, .int .u8 0, .int .u8 0], .agg (pkC zP), .agg (Cv.lmC Cv.zLm)] rfl (by kernel_rfl) (by kernel_rfl) (by kernel_rfl)
   (OpenSpec.preRow_of_cond 8 hx (by kernel_rfl) (fun k hk => by cases hk) (by kernel_rfl) (laid_met os))) ?_
 intro W base args ds gs before hval hW _ _ hsz hL _ _
 exact contract H enc W base args ds gs before hval hW hsz hL
theorem said : Rows.PacketChecksSaid :=
 OpenClaim.holds_of_cond 3 Tryz.f3 rfl rfl rfl rfl rfl rfl rfl ⟨rfl, rfl, rfl, rfl, rfl⟩ rfl rfl rfl rfl rfl (by kernel_rfl) Tryz.func3 (by kernel_rfl)
  (of_decide_eq_true (by kernel_rfl)) (by unfold Func.isWrapper; first | (rw [if_pos (by decide +kernel)]; kernel_rfl) | (rw [if_neg (by decide +kernel)]; exact ⟨rfl, rfl⟩))
  (fun os started H enc _ F => by rw [OpenClaim.pre_eq_preRow]; exact lifted os started H enc F)
theorem plain (f : FuncId) (fn : Func) (hf : Tryz.pinned.checked.prog.funcNamed "bosun/bosunlaw12.PacketChecks" = some f) (hfn : Tryz.pinned.checked.prog.funcs[f]? = some fn) :
  false = Tryz.pinned.checked.prog.looks [] ∧ ∀ (j : Nat) t, fn.params[j]? = some t → Tryz.pinned.checked.prog.wantsStandIn t = false := by
 obtain rfl : f = 3 := Option.some.inj ((show Tryz.prog.funcNamed "bosun/bosunlaw12.PacketChecks" = some 3 by kernel_rfl).symm.trans hf) |>.symm
 obtain rfl : fn = Tryz.f3 := (Option.some.inj (Tryz.func3.symm.trans hfn)).symm
 refine ⟨by kernel_rfl, fun j t ht => ?_⟩
 rw [Tryz.params3] at ht
 have hm : t ∈ [22, 28, 31] := by simpa using Array.mem_of_getElem? ht
 have hall : ∀ t ∈ [22, 28, 31], Tryz.prog.wantsStandIn t = false := by
  intro t ht
  simp only [List.mem_cons, List.not_mem_nil, or_false] at ht
  rcases ht with rfl | rfl | rfl <;> kernel_rfl
 exact hall t hm
theorem proved : Rows.PacketChecksCardSaid :=
 Claim7.holds_tied_plain_at .later [] _ _ _ _ said (fun _ h => by cases h) (by kernel_rfl) (fun _ h => by cases h) packetChecks_row_tie rfl ⟨rfl, rfl⟩ (by kernel_rfl) rfl plain (by kernel_rfl)
end lawPacketChecks
end Go.Proofs.YtjdebgbiockafaaGreatDoor
