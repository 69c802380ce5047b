/- A part. -/
import Derived.Test.YtjdebgbiockafaaGreatDoorGSgA
import Derived.Laws.BitsAllLaws
set_option linter.unusedVariables false
set_option linter.unusedSimpArgs false
set_option maxRecDepth 100000
set_option maxHeartbeats 8000000
namespace Go.Proofs.YtjdebgbiockafaaGreatDoor
namespace Cv
open Fe
open Go.ChangeShapes Go.WideShapes Go.ChangeAt Go.RowKit
theorem and248 : ∀ x : UInt8, bits .andNot .u8 ((x.toNat : Nat) : Int) 7 = (((x &&& 248).toNat : Nat) : Int) := by
 intro x
 have h := UInt8.toNat_lt x
 rw [show (7 : Int) = ((7 : Nat) : Int) from rfl, u8_andNot_nat _ _ h (by decide)]
 rw [UInt8.toNat_and]; rfl
theorem and63 : ∀ x : UInt8, bits .and .u8 ((x.toNat : Nat) : Int) 63 = (((x &&& 63).toNat : Nat) : Int) := by
 intro x
 have h := UInt8.toNat_lt x
 rw [show (63 : Int) = ((63 : Nat) : Int) from rfl, u8_and_nat _ _ h (by decide)]
 rw [UInt8.toNat_and]; rfl
theorem and63_lt (x : UInt8) : (x &&& 63).toNat ≤ 63 := by
 rw [UInt8.toNat_and]
 exact Nat.and_le_right
theorem add64 (x : UInt8) : IntKind.u8.wrap ((((x &&& 63).toNat : Nat) : Int) + 64) = ((((x &&& 63) + 64).toNat : Nat) : Int) := by
 have h := and63_lt x
 rw [UInt8.toNat_add]
 have e : (64 : UInt8).toNat = 64 := rfl
 rw [e, Nat.mod_eq_of_lt (by omega), IntKind.wrap_u8]
 omega
theorem clamp_get (h : List UInt8) (hl : h.length = 64) (k : Nat) (hk : k < 32) : (vbs (Sg.clampL h))[k]? = some (vb (UInt8.ofNat (leN ((Sg.clampL h).take 32) / 256 ^ k % 256))) := by
 have e1 : ((Sg.clampL h).take 32).length = 32 := by rw [List.length_take, Sg.clampL_len, hl]; rfl
 have h1 := bl_get (leN ((Sg.clampL h).take 32)) k hk
 rw [bl_leN _ e1, List.getElem?_take, if_pos hk] at h1
 simp only [vbs, List.getElem?_map, h1, Option.map_some]
theorem clamp_drop (h : List UInt8) : (Sg.clampL h).drop 32 = h.drop 32 := by
 unfold Sg.clampL
 rw [List.drop_set_of_lt (by decide), List.drop_set_of_lt (by decide)]
theorem getD_some (h : List UInt8) (k : Nat) (hk : k < h.length) : h[k]? = some (h.getD k 0) := by
 rw [List.getD_eq_getElem?_getD, List.getElem?_eq_getElem hk]; rfl
theorem infoU8 : (Tryz.prog.info? 5).map (fun i => (i.zero, i.size, i.bytes)) = some (some (.int .u8 0), 1, 1) := by kernel_rfl
theorem zB_lay5 {F : SP} {X : World} {g n : Nat} {t : TypeId} (h : (blk g (.cells (zB n) t (0, 0)) * F).on X) : IsBytes X (.slice (some ⟨g, 0, .none⟩) 32 32) (bl n) := by
 have := zb_lay (l := bl n) (on_blk_mul h) (by rw [bl_len]; unfold maxLen; omega)
 rwa [bl_len] at this
theorem msecret_any (n : Nat) (hn : n < 256 ^ 32) (w : World) :
  Calls Tryz.prog 14 #[.agg (zB n)] w fun e w' => ∃ og oc u, e = .returned (.tuple #[.agg (q4 (Sg.secN (bl n))), u]) ∧ (own 5 1 (.slice (some ⟨og, 0, .none⟩) 64 oc) 64 (vbs (Sg.clampL (Sha64.digest (bl n)))) * all w).on w' ∧
   (∀ w9 : World, IsBytes w9 (.slice (some ⟨og, 0, .none⟩) 64 oc) (Sg.clampL (Sha64.digest (bl n))) → IsBytes w9 u (Sg.secR (bl n))) ∧ Str w w' := by
 have hub := Tryz.underlying22
 have hu4 := Tryz.underlying51
 have hzB := zBZero
 have hzL := eZero4
 have h0 := ((on_all w).alloc (.cells (zB n) 22)).alloc (.cells (q4 0) 51)
 have s0 := ((Str.refl w).alloc (.cells (zB n) 22)).alloc (.cells (q4 0) 51)
 try simp only [World.size_alloc] at h0
 have H1 := hide h0
 have S1 := hide s0
 clear h0 s0
 have hu8s := Tryz.underlying35
 have hu8 := Tryz.underlying5
 have hu6 := Tryz.underlying50
 have hdl := Sha64.digest_len (bl n)
 have hcl : (Sg.clampL (Sha64.digest (bl n))).length = 64 := by rw [Sg.clampL_len, hdl]
 have Hget := hide (fun k hk => clamp_get (Sha64.digest (bl n)) hdl k hk)
 have H32 := hide (show lvs (lw (leN ((Sg.clampL (Sha64.digest (bl n))).take 32)) 32) = q4 0 from congrArg lvs (lw_32 _))
 have Hl0 := hide (show lvs (lw (leN ((Sg.clampL (Sha64.digest (bl n))).take 32)) 0) = q4 (Sg.secN (bl n)) from congrArg lvs (lw_0 _))
 have hx0 := vbs_get (Sha64.digest (bl n)) 0 (by omega)
 have hE := fun X => Sha64.short_any X
 have hS := fun u X (hu : IsBytes X u (bl n)) => Sha64.rsum_any u (bl n) X hu (by rw [bl_len]; omega)
 have HE := hide hE
 have HlS := hide (fun X g (F : SP) t => zB_lay5 (X := X) (g := g) (F := F) (n := n) (t := t))
 have hg0 := getD_some (Sha64.digest (bl n)) 0 (by omega)
 have hg31 := getD_some ((Sha64.digest (bl n)).set 0 ((Sha64.digest (bl n)).getD 0 0 &&& 248)) 31 (by rw [List.length_set]; omega)
 have hg31b : ((Sha64.digest (bl n)).set 0 ((Sha64.digest (bl n)).getD 0 0 &&& 248)).getD 31 0 = (Sha64.digest (bl n)).getD 31 0 := by
  rw [List.getD_eq_getElem?_getD, List.getElem?_set_ne (by decide), ← List.getD_eq_getElem?_getD]
 rw [hg31b] at hg31
 have HC := hide (show Sg.clampL (Sha64.digest (bl n)) = ((Sha64.digest (bl n)).set 0 ((Sha64.digest (bl n)).getD 0 0 &&& 248)).set 31 (((Sha64.digest (bl n)).getD 31 0 &&& 63) + 64) from rfl)
 have HD := hide (clamp_drop (Sha64.digest (bl n)))
 have HR := hide (show Sg.secR (bl n) = (Sha64.digest (bl n)).drop 32 from rfl)
 rw [hdl] at hS
 have HS := hide hS
 have Hdl := hide hdl
 have Hcl := hide hcl
 clear hE hS hcl hx0 hg31b hdl hn
 generalize hdg : Sha64.digest (bl n) = dg at *
 have Hg0 := hide hg0
 have Hg31 := hide hg31
 clear hdg hg0 hg31
 have Ha0 := hide (and248 (dg.getD 0 0))
 have Ha31 := hide (and63 (dg.getD 31 0))
 have Hb31 := hide (add64 (dg.getD 31 0))
 generalize ((dg.getD 31 0 &&& 63) + 64) = y31 at *
 generalize (dg.getD 31 0 &&& 63) = z31 at *
 generalize (dg.getD 0 0 &&& 248) = y0 at *
 generalize dg.getD 0 0 = x0 at *
 generalize dg.getD 31 0 = x31 at *
 generalize hFc : Sha64.fc = fc at *
 have HFc := hide hFc
 clear hFc
 obtain ⟨HsSs, HoSs, HzSs⟩ := b3 (zBInfo n) (zBOne n) (zBSize 0 n)
 obtain ⟨HsNn, HoNn, HzNn⟩ := b3 (eInfo4 (Sg.secN (bl n))) (eOne (Sg.secN (bl n))) (eSize 0 (Sg.secN (bl n)))
 generalize hvSs : zB n = Ss at *
 have hvSs := hide hvSs
 generalize q4 (Sg.secN (bl n)) = Nn at *
 generalize zB 0 = ZB at *
 generalize q4 0 = Z4 at *
 go_enter Tryz.func14, Tryz.ntmps14
 refine wp_seq_h fun K1 hK1 => ?_
 go_wp2
 refine hK1.out _ _ ?_
 clear hK1 K1
 generalize (w.alloc (.cells Ss 22)).alloc (.cells Z4 51) = w1 at *
 go_wp2_with fail
 refine wp_tail 3 [isV (.agg fc), isV (.slice (some ⟨w.heap.size, 0, .none⟩) 32 32), fun u X => (own 5 1 u 64 (vbs dg) * (blk (w.heap.size + 1) (.cells Z4 51 (0, 0)) * (blk (w.heap.size) (.cells Ss 22 (0, 0)) * all w))).on X] ?t110 ?r125 (hk := ?keep)
 case keep => exact ⟨Keep.isV _, Keep.isV _, fun _ _ _ h k => SP.on.below h k, trivial⟩
 case' t110 => refine ⟨?_, ?_, ?_, trivial⟩ <;> intro ev X hT hb hk hf
 ·exact OpOk.c0 hb (HE.out X)
 ·exact OpOk.r (by simp [execOp, fV ev 1 (.pointer (some ⟨w.heap.size, 0, .none⟩)) hk.1, hub, go_sem])
 ·have hs := HS.out _ X (HlS.out X (w.heap.size) _ _ ((H1.out.below hT).right))
  refine OpOk.enters (by simp [execOp, resolve, invoke, fX ev 7 hf.1, fX ev 8 hf.2.1, hb.1, hb.2.1, go_sem]) (hs.mono ?_)
  rintro e X2 ⟨u, rfl, ho, hs2⟩
  exact ⟨_, rfl, on_all_to ho (H1.out.below hT), Makes.below (Q := fun u => own 5 1 u 64 (vbs dg)) ho hs2⟩
 intro w2 hX
 rintro _ rfl _ rfl v9 ho
 obtain ⟨H2, S2⟩ := nx H1.out S1.out hX
 clear hX H1 S1
 go_wp2
 refine Rest.done ?_
 have hob := own_block ho (by decide)
 obtain ⟨og, oc, rfl, hoc, hom⟩ := hob
 clear H2
 have H2 := hide ho
 clear ho
 have hcz := own_cell H2.out 0 (vb x0) (by simp only [vbs, List.getElem?_map, Hg0.out, Option.map_some])
 have hfz := own_free H2.out 0
 have h1 := own_store H2.out (j := 0) (by decide) (vb y0)
 rw [show (vbs dg).set 0 (vb y0) = vbs (dg.set 0 y0) by simp [vbs, List.map_set]] at h1
 have hcz2 := own_cell h1 31 (vb x31) (by simp only [vbs, List.getElem?_map, Hg31.out, Option.map_some])
 have hfz2 := own_free h1 31
 have h2 := own_store h1 (j := 31) (by decide) (vb y31)
 rw [show (vbs (dg.set 0 y0)).set 31 (vb y31) = vbs (Sg.clampL dg) by rw [HC.out]; simp [vbs, List.map_set]] at h2
 have h3 := h2.alloc (.cells Z4 51)
 have sz : ((w2.setCell ⟨og, 0, .none⟩ (vb y0)).setCell ⟨og, 31, .none⟩ (vb y31)).heap.size = w2.heap.size := by simp
 rw [sz] at h3
 have H3 := hide h3
 have S3 := hide (((S2.out.setCell ⟨og, 0, .none⟩ (vb y0)).setCell ⟨og, 31, .none⟩ (vb y31)).alloc (.cells Z4 51))
 have ha0 := Ha0.out
 have ha31 := Ha31.out
 have hb31 := Hb31.out
 have hb32 := hb31
 rw [IntKind.wrap_u8] at hb32
 clear h1 h2 h3 sz
 go_wp2_with fail
 generalize ((w2.setCell ⟨og, 0, .none⟩ (vb y0)).setCell ⟨og, 31, .none⟩ (vb y31)).alloc (.cells Z4 51) = w3 at *
 generalize w2.heap.size = p5 at *
 clear hcz hfz hcz2 hfz2 ha0 ha31 hb31 hb32
 clear H2 S2
 go_loopw [6] (fun i wr => ∃ k : Nat, k ≤ 32 ∧ i = .int .i64 ((k : Int) - 1) ∧ (blk (p5) (.cells (lvs (lw (leN ((Sg.clampL dg).take 32)) k)) 51 (0, 0)) * (own 5 1 (.slice (some ⟨og, 0, .none⟩) 64 oc) 64 (vbs (Sg.clampL dg)) * (blk (w.heap.size + 1) (.cells Z4 51 (0, 0)) * (blk w.heap.size (.cells Ss 22 (0, 0)) * all w)))).on wr ∧ Str w wr) (fun i _ => (intOf i + 1).toNat)
 case atStart => exact ⟨32, by omega, rfl, by rw [H32.out]; exact H3.out, S3.out⟩
 obtain ⟨k, hk, rfl, hX, hS2⟩ := hrel
 have HXk := hide hX
 have HSk := hide hS2
 clear hX hS2 H3 S3
 cases k with
 | zero =>
  rw [Hl0.out] at HXk
  have h4 := HXk.out
  rw [show (blk p5 (.cells Nn 51 (0, 0)) * (own 5 1 (.slice (some ⟨og, 0, .none⟩) 64 oc) 64 (vbs (Sg.clampL dg)) * (blk (w.heap.size + 1) (.cells Z4 51 (0, 0)) * (blk w.heap.size (.cells Ss 22 (0, 0)) * all w)))) = (blk (w.heap.size + 1) (.cells Z4 51 (0, 0)) * (blk p5 (.cells Nn 51 (0, 0)) * (own 5 1 (.slice (some ⟨og, 0, .none⟩) 64 oc) 64 (vbs (Sg.clampL dg)) * (blk w.heap.size (.cells Ss 22 (0, 0)) * all w)))) by ac_rfl] at h4
  clear HXk
  have HXk := hide h4
  clear h4
  go_wp2_with fail
  refine AppK.wp_region_set 3 [isV (.agg Nn), isV (.slice (some ⟨og, 0, .none⟩) 64 oc), (fun u X => ∀ w9 : World, IsBytes w9 (.slice (some ⟨og, 0, .none⟩) 64 oc) (Sg.clampL dg) → IsBytes w9 u ((Sg.clampL dg).drop 32)), (fun _ _ => True), (fun u X => ∀ w9 : World, IsBytes w9 (.slice (some ⟨og, 0, .none⟩) 64 oc) (Sg.clampL dg) → IsBytes w9 u ((Sg.clampL dg).drop 32))]
   [isV (.agg Nn), isV (.slice (some ⟨og, 0, .none⟩) 64 oc), (fun u X => ∀ w9 : World, IsBytes w9 (.slice (some ⟨og, 0, .none⟩) 64 oc) (Sg.clampL dg) → IsBytes w9 u ((Sg.clampL dg).drop 32)), (fun _ _ => True), (fun u X => ∀ w9 : World, IsBytes w9 (.slice (some ⟨og, 0, .none⟩) 64 oc) (Sg.clampL dg) → IsBytes w9 u ((Sg.clampL dg).drop 32))] _ rfl (by kernel_rfl) (by kernel_rfl) rfl (by decide) (.inr rfl) (fun ph X => (blk (w.heap.size + 1) (.cells (if ph = true then Nn else Z4) 51 (0, 0)) * (blk p5 (.cells Nn 51 (0, 0)) * (own 5 1 (.slice (some ⟨og, 0, .none⟩) 64 oc) 64 (vbs (Sg.clampL dg)) * (blk w.heap.size (.cells Ss 22 (0, 0)) * all w)))).on X ∧ Str w X) ⟨SP.on.drew HXk.out, Str.drew HSk.out⟩ (fun ph a b h st => ⟨h.1.below st, h.2.trans (Str.below st)⟩) kP kP ?store ?todo ?r126
  case store =>
   intro ev X hT hb hk hf
   have hX : (blk (w.heap.size + 1) (.cells Z4 51 (0, 0)) * (blk p5 (.cells Nn 51 (0, 0)) * (own 5 1 (.slice (some ⟨og, 0, .none⟩) 64 oc) 64 (vbs (Sg.clampL dg)) * (blk w.heap.size (.cells Ss 22 (0, 0)) * all w)))).on X := hT.1
   exact OpOk.store_agg _ _ _ rfl (w.heap.size + 1) Nn (fV ev 2 (.pointer (some ⟨w.heap.size + 1, 0, .none⟩)) hk.1) (fX ev 41 hf.1) _ Z4 hX HsNn.out HzNn.out HoNn.out (fun h3 => ⟨⟨h3, hT.2.setRow _ _⟩, trivial, fun i _ hv => vList_free fR i _ _ _ hv⟩)
  case todo =>
   refine ⟨?_, ?_, ?_, ?_, ?_, trivial⟩
   ·refine pK fun ev X hT hb hk hf => ?_
    exact OpOk.l (fV ev 5 (.pointer (some ⟨p5, 0, .none⟩)) hk.1) (on_blk_mul (SP.on.right hT.1)) hu4 HsNn.out
   ·intro _ ph h1 h2
    cases ph
    all_goals
     intro ev X hT hb hk hf
     exact OpOk.m rfl (fV ev 4 (.slice (some ⟨og, 0, .none⟩) 64 oc) hk.1)
   ·intro _ ph h1 h2
    cases ph
    all_goals
     intro ev X hT hb hk hf
     have e0 := fX ev 42 hf.1
     have hbX : IsBytes X (.slice (some ⟨og, 0, .none⟩) 64 oc) (Sg.clampL dg) := by
      have h8 := SP.on.right (SP.on.right hT.1)
      rw [← Hcl.out] at h8
      have h9 := own_bytes h8
      rwa [Hcl.out] at h9
     obtain ⟨v', hrun, hv'⟩ := run_slice_from (P := Tryz.prog) hbX 32 (by rw [Hcl.out]; decide) _ _ hu8s infoU8
     have hr3 : (Instr.sliceAt 35 (.slice (some ⟨og, 0, .none⟩) 64 oc) (some (.int .i64 32)) Option.none Option.none).run Tryz.prog X = .ok v' X := hrun
     exact OpOk.run (v := v') (W' := X) (by simp [execOp, e0, hb.1, hr3, go_sem]) ⟨hv', Stay.refl _⟩
   ·exact fun h => absurd rfl h
   intro _ ph h1 h2
   obtain rfl : ph = true := h1 (by kernel_rfl)
   intro ev X hT hb hk hf
   have e0 := hf.1
   exact OpOk.run (v := ev (.tmp 43)) (W' := X) (by simp [execOp, go_sem]) ⟨e0, Stay.refl _⟩
  intro X hT
  rintro _ rfl _ rfl _ - _ - v3 hv3
  have hX2 : (blk (w.heap.size + 1) (.cells Nn 51 (0, 0)) * (blk p5 (.cells Nn 51 (0, 0)) * (own 5 1 (.slice (some ⟨og, 0, .none⟩) 64 oc) 64 (vbs (Sg.clampL dg)) * (blk w.heap.size (.cells Ss 22 (0, 0)) * all w)))).on X := hT.1
  have gR := on_blk_mul hX2
  have HSX := hide hT.2
  have HX2 := hide hX2
  have HV := hide hv3
  clear hT hX2 hv3
  go_wp2
  refine Rest.done ?_
  go_wp2
  refine bodyPost_ret (v := .tuple #[.agg Nn, v3]) (results_cell_row_tmp Tryz.results14 _ _ (w.heap.size + 1) _ Nn (0, 0) _ rfl gR hu4 rfl HsNn.out v3 rfl) rfl ⟨og, oc, v3, rfl, ?_, ?_, HSX.out⟩
  ·exact (SP.le.mul (SP.le.refl _) (SP.le_right _ _)).on (SP.on.right (SP.on.right HX2.out))
  rw [HR.out, ← HD.out]
  exact HV.out
 | succ k =>
  have hk32 : k < 32 := by omega
  have s1 : (((k + 1 : Nat) : Int) - 1) = (k : Int) := by omega
  rw [s1]
  clear s1
  have hval := lw_val (leN ((Sg.clampL dg).take 32)) k hk32
  have hb256 : (leN ((Sg.clampL dg).take 32)) / 256 ^ k % 256 < 256 := Nat.mod_lt _ (by decide)
  have hll := limb_lt (leN ((Sg.clampL dg).take 32)) (k / 8)
  have hle : limb (leN ((Sg.clampL dg).take 32)) (k / 8) / 256 ^ (k % 8) ≤ limb (leN ((Sg.clampL dg).take 32)) (k / 8) := Nat.div_le_self _ _
  have hstep := lw_step (leN ((Sg.clampL dg).take 32)) k hk32
  have hget := lvs_get _ _ _ (lw_get (leN ((Sg.clampL dg).take 32)) (k + 1) (k / 8) (by omega))
  have hgb := Hget.out k hk32
  have hxn : (UInt8.ofNat ((leN ((Sg.clampL dg).take 32)) / 256 ^ k % 256)).toNat = (leN ((Sg.clampL dg).take 32)) / 256 ^ k % 256 := by rw [UInt8.toNat_ofNat']; omega
  rw [← hxn] at hval
  have hset := lvs_set (lw (leN ((Sg.clampL dg).take 32)) (k + 1)) (k / 8) (limb (leN ((Sg.clampL dg).take 32)) (k / 8) / 256 ^ (k % 8))
  rw [hstep] at hset
  have Hps := hide (show k / 8 < (lvs (lw (leN ((Sg.clampL dg).take 32)) (k + 1))).size by rw [lvs_size, lw_len]; omega)
  have hq4 : ((k / 8 : Nat) : Int) < 4 := by omega
  have hk32' : (k : Int) < 32 := by omega
  have hk64 : (k : Int) < 64 := by omega
  have c1 : IntKind.i64.wrap ((k : Int) / 8) = ((k / 8 : Nat) : Int) := by rw [IntWalk.i64_in _ (by omega)]; omega
  generalize UInt8.ofNat ((leN ((Sg.clampL dg).take 32)) / 256 ^ k % 256) = x at *
  have hx8 := UInt8.toNat_lt x
  generalize limb (leN ((Sg.clampL dg).take 32)) (k / 8) / 256 ^ (k % 8) = z at *
  generalize limb (leN ((Sg.clampL dg).take 32)) (k / 8) / 256 ^ (k + 1 - 8 * (k / 8)) = y at *
  have c5 : IntKind.u64.wrap ((x.toNat : Nat) : Int) = ((x.toNat : Nat) : Int) := wrapS _ (by omega)
  have q6 : IntKind.u64.wrap ((y : Int) * 256) = ((y * 256 : Nat) : Int) := by rw [IntKind.wrap_u64]; omega
  have q7 : IntKind.u64.wrap (((y * 256 : Nat) : Int) + ((x.toNat : Nat) : Int)) = (z : Int) := by rw [IntKind.wrap_u64]; omega
  generalize y * 256 = y2 at *
  have Q6 := hide q6
  have Q7 := hide q7
  have Hcl := hide hget
  have Hgb := hide hgb
  have Hset := hide hset
  have hs8 : (Tryz.prog.info? 50).map (·.size) = some 1 := by kernel_rfl
  clear hset hget q6 q7 hval hb256 hll hle hstep hgb hxn
  generalize lvs (lw (leN ((Sg.clampL dg).take 32)) (k + 1)) = P1 at *
  generalize hP2 : lvs (lw (leN ((Sg.clampL dg).take 32)) k) = P2 at *
  have HP2 := hide hP2
  clear hP2
  generalize k / 8 = q at *
  go_wp2_with fail
  refine AppK.wp_region_set 14 [isV (.int .i64 (k : Int)), isV (.int .i64 ((q : Nat) : Int)), isV (.int .i64 (k : Int)), isV (.int .i64 ((q : Nat) : Int)), isV (.pointer (some ⟨p5, q, .none⟩)), isV (lv y), isV (lv y2), isV (.slice (some ⟨og, 0, .none⟩) 64 oc), isV (.int .i64 (k : Int)), isV (.pointer (some ⟨og, k, .none⟩)), isV (vb x), isV (lv x.toNat), isV (lv z), isV (.pointer (some ⟨p5, q, .none⟩)), (fun _ _ => True)]
   [isV (.int .i64 (k : Int)), isV (.int .i64 ((q : Nat) : Int)), isV (.int .i64 (k : Int)), isV (.int .i64 ((q : Nat) : Int)), isV (.pointer (some ⟨p5, q, .none⟩)), isV (lv y), isV (lv y2), isV (.slice (some ⟨og, 0, .none⟩) 64 oc), isV (.int .i64 (k : Int)), isV (.pointer (some ⟨og, k, .none⟩)), isV (vb x), isV (lv x.toNat), isV (lv z), isV (.pointer (some ⟨p5, q, .none⟩)), (fun _ _ => True)] _ rfl (by kernel_rfl) (by kernel_rfl) rfl (by decide) (.inr rfl) (fun ph X => (blk (p5) (.cells (if ph = true then P2 else P1) 51 (0, 0)) * (own 5 1 (.slice (some ⟨og, 0, .none⟩) 64 oc) 64 (vbs (Sg.clampL dg)) * (blk (w.heap.size + 1) (.cells Z4 51 (0, 0)) * (blk w.heap.size (.cells Ss 22 (0, 0)) * all w)))).on X ∧ Str w X) ⟨SP.on.drew HXk.out, Str.drew HSk.out⟩ (fun ph a b h st => ⟨h.1.below st, h.2.trans (Str.below st)⟩) kP kP ?store ?todo ?r127
  case store =>
   intro ev X hT hb hk hf
   have hX : (blk (p5) (.cells P1 51 (0, 0)) * (own 5 1 (.slice (some ⟨og, 0, .none⟩) 64 oc) 64 (vbs (Sg.clampL dg)) * (blk (w.heap.size + 1) (.cells Z4 51 (0, 0)) * (blk w.heap.size (.cells Ss 22 (0, 0)) * all w)))).on X := hT.1
   exact OpOk.store_one _ _ _ rfl (p5) q (lv z) (fX ev 40 hf.1) (fX ev 39 hf.2.1) rfl _ P1 hX hs8 Hps.out rfl P2 Hset.out (fun h3 => ⟨⟨h3, hT.2.setRow _ _⟩, trivial, fun i _ hv => vList_free fR i _ _ _ hv⟩)
  case todo =>
   refine ⟨?_, ?_, ?_, ?_, ?_, ?_, ?_, ?_, ?_, ?_, ?_, ?_, ?_, ?_, ?_, trivial⟩
   ·refine pK fun ev X hT hb hk hf => ?_
    exact OpOk.m rfl (fV ev 6 (.int .i64 (k : Int)) hk.1)
   ·refine pK fun ev X hT hb hk hf => ?_
    exact OpOk.r (by simp [execOp, fX ev 27 hf.1, hb.1, c1, go_sem])
   ·refine pK fun ev X hT hb hk hf => ?_
    exact OpOk.m rfl (fV ev 6 (.int .i64 (k : Int)) hk.1)
   ·refine pK fun ev X hT hb hk hf => ?_
    exact OpOk.r (by simp [execOp, fX ev 29 hf.1, hb.1, c1, go_sem])
   ·refine pK fun ev X hT hb hk hf => ?_
    exact OpOk.r (by simp [execOp, fV ev 5 (.pointer (some ⟨p5, 0, .none⟩)) hk.1, fX ev 30 hf.1, hb.1, hq4, go_sem]; try (intro h; omega))
   ·refine pK fun ev X hT hb hk hf => ?_
    have cW := (cell_of_row X (p5) q _ _ _ (on_blk_mul hT.1)).trans Hcl.out
    exact OpOk.sc (fX ev 31 hf.1) cW
   ·refine pK fun ev X hT hb hk hf => ?_
    exact OpOk.r (by have h9 := Q6.out; simp [execOp, fX ev 32 hf.1, hb.1, h9, go_sem])
   ·refine pK fun ev X hT hb hk hf => ?_
    exact OpOk.m rfl (fV ev 4 (.slice (some ⟨og, 0, .none⟩) 64 oc) hk.1)
   ·refine pK fun ev X hT hb hk hf => ?_
    exact OpOk.m rfl (fV ev 6 (.int .i64 (k : Int)) hk.1)
   ·refine pK fun ev X hT hb hk hf => ?_
    exact OpOk.r (by simp [execOp, fX ev 34 hf.1, fX ev 35 hf.2.1, hb.1, hu8s, hk64, go_sem]; try (intro h; omega))
   ·refine pK fun ev X hT hb hk hf => ?_
    have cW := own_cell hT.1.right k (vb x) Hgb.out
    exact OpOk.sc (fX ev 36 hf.1) cW
   ·refine pK fun ev X hT hb hk hf => ?_
    exact OpOk.r (by simp [execOp, fX ev 37 hf.1, hb.1, hu6, hu8, c5, go_sem])
   ·refine pK fun ev X hT hb hk hf => ?_
    exact OpOk.r (by have h9 := Q7.out; simp [execOp, fX ev 33 hf.1, fX ev 38 hf.2.1, h9, go_sem])
   ·refine pK fun ev X hT hb hk hf => ?_
    exact OpOk.r (by simp [execOp, fV ev 5 (.pointer (some ⟨p5, 0, .none⟩)) hk.1, fX ev 28 hf.1, hb.1, hq4, go_sem]; try (intro h; omega))
   exact fun h => absurd rfl h
  intro X hT
  rintro _ - _ - _ - _ - _ - _ - _ - _ - _ - _ - _ - _ - _ - _ - _ -
  have hX2 : (blk (p5) (.cells P2 51 (0, 0)) * (own 5 1 (.slice (some ⟨og, 0, .none⟩) 64 oc) 64 (vbs (Sg.clampL dg)) * (blk (w.heap.size + 1) (.cells Z4 51 (0, 0)) * (blk w.heap.size (.cells Ss 22 (0, 0)) * all w)))).on X := hT.1
  have HX2 := hide hX2
  have HST := hide hT.2
  clear hT hX2
  go_wp2
  refine Rest.done ?_
  go_wp2_with fail
  refine ⟨⟨k, by omega, rfl, by rw [HP2.out]; exact HX2.out, HST.out⟩, by simp [intOf]⟩
theorem hInfo (r s : Nat) : (Tryz.prog.info? 25).map (·.size) = some (gC r s).size := by rw [gC_sz]; kernel_rfl
theorem hZero (w : World) : (zeroValue 25).run Tryz.prog w = .ok (.agg (gC 0 0)) w := by rw [g0]; kernel_rfl
def encM (p : Ed.Pt) : Nat := Ed.encN p.x.val p.y.val
def pubN (n : Nat) : Nat := encM (Sg.pubP (bl n))
def sigRN (n : Nat) (m : List UInt8) : Nat := encM (Sg.sigP (bl n) m)
theorem run_rr3 (a b d : Option Addr) (n c m e k f : Nat) (w : World) : (Instr.buildSlice 94 3 #[(0, .slice a n c), (1, .slice b m e), (2, .slice d k f)]).run Tryz.prog w = .ok (.slice (some ⟨w.heap.size, 0, .none⟩) 3 3) (w.alloc (.cells #[.slice a n c, .slice b m e, .slice d k f] 35)) := by kernel_rfl
theorem rows_three {w : World} {v1 v2 v3 : Value} {l1 l2 l3 : List UInt8} (h1 : IsBytes w v1 l1) (h2 : IsBytes w v2 l2) (h3 : IsBytes w v3 l3) (t : TypeId) : IsRows (w.alloc (.cells #[v1, v2, v3] t)) (.slice (some ⟨w.heap.size, 0, .none⟩) 3 3) [l1, l2, l3] :=
 IsRows.new w [v1, v2, v3] [l1, l2, l3] rfl (by simp [maxLen]) (fun i v l e e' => by
  match i, e, e' with
  | 0, e, e' => simp at e e'; subst e; subst e'; exact h1
  | 1, e, e' => simp at e e'; subst e; subst e'; exact h2
  | 2, e, e' => simp at e e'; subst e; subst e'; exact h3
  | i + 3, e, _ => simp at e) t
def oL (a b : List UInt8) (k : Nat) : List UInt8 := (a.take k ++ (List.replicate 32 0).drop k) ++ (b.take k ++ (List.replicate 32 0).drop k)
theorem oL_0 (a b : List UInt8) : oL a b 0 = List.replicate 64 0 := by simp [oL, List.replicate_append_replicate]
theorem oL_32 (a b : List UInt8) (h1 : a.length = 32) (h2 : b.length = 32) : oL a b 32 = a ++ b := by
 unfold oL
 rw [List.take_of_length_le (by omega), List.take_of_length_le (by omega)]
 simp
theorem half_set (a z : List UInt8) (k : Nat) (x : UInt8) (h : a[k]? = some x) (hz : k < z.length) : (a.take k ++ z.drop k).set k x = a.take (k + 1) ++ z.drop (k + 1) := by
 have hk : k < a.length := (List.getElem?_eq_some_iff.1 h).1
 have hx : a[k] = x := (List.getElem?_eq_some_iff.1 h).2
 rw [List.set_append_right _ _ (by simp; omega), List.length_take, Nat.min_eq_left (by omega), Nat.sub_self, List.drop_eq_getElem_cons hz, List.set_cons_zero, List.take_succ_eq_append_getElem hk, hx, List.append_assoc]
 rfl
theorem oL_step (a b : List UInt8) (k : Nat) (x y : UInt8) (h1 : a[k]? = some x) (h2 : b[k]? = some y) (hk : k < 32) : ((oL a b k).set k x).set (32 + k) y = oL a b (k + 1) := by
 have hka : k < a.length := (List.getElem?_eq_some_iff.1 h1).1
 have hkb : k < b.length := (List.getElem?_eq_some_iff.1 h2).1
 unfold oL
 have l1 : (a.take k ++ (List.replicate 32 (0 : UInt8)).drop k).length = 32 := by simp; omega
 have l2 : (a.take (k + 1) ++ (List.replicate 32 (0 : UInt8)).drop (k + 1)).length = 32 := by simp; omega
 rw [List.set_append_left _ _ (by omega), half_set a _ k x h1 (by simp; omega), List.set_append_right _ _ (by omega), l2, Nat.add_sub_cancel_left, half_set b _ k y h2 (by simp; omega)]
theorem oL_get (a b : List UInt8) (k j : Nat) (h1 : a.length = 32) (h2 : b.length = 32) (hk : k ≤ 32) (hj : j < 64) : ∃ x, (oL a b k)[j]? = some x :=
 ⟨_, List.getElem?_eq_getElem (by simp [oL]; omega)⟩
theorem zbCell {F : SP} {b : Nat} {l : List UInt8} {t : TypeId} {w : World} (h : (blk b (.cells (zb l) t (0, 0)) * F).on w) (k : Nat) (x : UInt8) (hx : l[k]? = some x) : w.cell? ⟨b, k, .none⟩ = some (vb x) :=
 (cell_of_row w b k _ _ _ (on_blk_mul h)).trans (zb_get l k x hx)
theorem zbSet {F : SP} {b : Nat} {l : List UInt8} {t : TypeId} {w : World} (h : (blk b (.cells (zb l) t (0, 0)) * F).on w) (k : Nat) (x : UInt8) : (blk b (.cells (zb (l.set k x)) t (0, 0)) * F).on (w.setCell ⟨b, k, .none⟩ (vb x)) := by
 have := SP.on.setCell (i := k) h (vb x)
 rwa [zb_set] at this
theorem q256 : 18446744073709551616 ^ 4 = 256 ^ 32 := by decide +kernel
theorem q2256 : 256 ^ 32 = 2 ^ 256 := by decide +kernel
theorem bytesL_zB (n : Nat) (h : n < 256 ^ 32) (w : World) :
  Calls Tryz.prog 20 #[.agg (q4 n)] w fun e w' => e = .returned (.agg (zB n)) ∧ Below w.heap.size w w' := by
 have h2 := bytesL_any n w
 rw [bl_wbs n (by rw [q256]; exact h)] at h2
 exact h2
theorem mbase_times (n : Nat) (hn : n < 256 ^ 32) (w : World) :
  Calls Tryz.prog 16 #[.agg (tpC (tOf Ed.Pt.base)), .agg (q4 n), .agg (n17 Ed.dN)] w fun e w' => e = .returned (.agg (tpC (Ed.Tp.times (tOf Ed.Pt.base) n 256))) ∧ Below w.heap.size w w' :=
 mtimes_any (tOf Ed.Pt.base) n (by rw [q256]; exact hn) w
theorem mbase_enc (n : Nat) (hn : n < 256 ^ 32) (w : World) :
  Calls Tryz.prog 15 #[.agg (tpC (Ed.Tp.times (tOf Ed.Pt.base) n 256))] w fun e w' => e = .returned (.agg (zB (encM (Ed.Pt.base.mul n)))) ∧ Below w.heap.size w w' :=
 mencode_any (Ed.Tp.times_all (tOf_has Ed.Pt.base) n (by rw [← q2256]; exact hn)) w
theorem mpublic_any (n : Nat) (hn : n < 256 ^ 32) (w : World) :
  Calls Tryz.prog 5 #[.agg (zB n)] w fun e w' => e = .returned (.agg (zB (pubN n))) ∧ Below w.heap.size w w' := by
 have hub := Tryz.underlying22
 have hu4 := Tryz.underlying51
 have hzB := zBZero
 have hzL := eZero4
 have h0 := ((on_all w).alloc (.cells (zB n) 22)).alloc (.cells (zB 0) 22)
 have s0 := ((Str.refl w).alloc (.cells (zB n) 22)).alloc (.cells (zB 0) 22)
 try simp only [World.size_alloc] at h0
 have H1 := hide h0
 have S1 := hide s0
 clear h0 s0
 have hk1 := hide (fun X => msecret_any n hn X)
 have hlt := Sg.secN_lt (bl n)
 have hk2 := hide (fun X => mbase_any X)
 have hk3 := hide (fun X => md_any X)
 have hk4 := hide (fun X => mbase_times (Sg.secN (bl n)) hlt X)
 have k5 := fun X => mbase_enc (Sg.secN (bl n)) hlt X
 change ∀ X, Calls Tryz.prog 15 #[.agg (tpC (Ed.Tp.times (tOf Ed.Pt.base) (Sg.secN (bl n)) 256))] X fun e w' => e = .returned (.agg (zB (pubN n))) ∧ Below X.heap.size X w' at k5
 have hk5 := hide k5
 clear hn hlt k5
 obtain ⟨HsSs, HoSs, HzSs⟩ := b3 (zBInfo n) (zBOne n) (zBSize 0 n)
 obtain ⟨HsPb, HoPb, HzPb⟩ := b3 (zBInfo (pubN n)) (zBOne (pubN n)) (zBSize 0 (pubN n))
 obtain ⟨HsNn, HoNn, HzNn⟩ := b3 (eInfo4 (Sg.secN (bl n))) (eOne (Sg.secN (bl n))) (eSize 0 (Sg.secN (bl n)))
 generalize zB n = Ss at *
 generalize zB (pubN n) = Pb at *
 generalize q4 (Sg.secN (bl n)) = Nn at *
 generalize zB 0 = ZB at *
 generalize q4 0 = Z4 at *
 generalize tpC (Ed.Tp.times (tOf Ed.Pt.base) (Sg.secN (bl n)) 256) = TM at *
 generalize tpC (tOf Ed.Pt.base) = TB at *
 generalize n17 Ed.dN = Dd at *
 go_enter Tryz.func5, Tryz.ntmps5
 refine wp_seq_h fun K1 hK1 => ?_
 go_wp2
 refine hK1.out _ _ ?_
 clear hK1 K1
 generalize (w.alloc (.cells Ss 22)).alloc (.cells ZB 22) = w1 at *
 have gA := on_blk_mul H1.out.right
 go_wp2_with (first
  | (refine wL gA hub HsSs ?_))
 clear gA
 refine (hk1.out _).mono ?_
 rintro e w2 ⟨og, oc, u, rfl, ho, hu, hs⟩
 have H2 := hide (on_all_to ho H1.out)
 have S2 := hide (S1.out.trans hs)
 have HU := hide hu
 clear ho hu hs H1 S1
 obtain ⟨gN, gM, H3, S3⟩ := newV H2.out S2.out Z4 Nn 51
 go_wp2_with (first
  | (refine wS gN HsNn HzNn HoNn ?_))
 generalize (w2.alloc (.cells Z4 51)).setRow w2.heap.size Nn = w3 at *
 clear gN gM H2 S2
 generalize w2.heap.size = p3 at *
 refine wp_tail 5 (iv [.agg TB, .agg Nn, .agg Dd, .agg TM, .agg Pb]) ?t111 ?r128
 case' t111 => refine ⟨?_, ?_, ?_, ?_, ?_, trivial⟩ <;> intro ev X hT hb hk hf
 ·exact OpOk.c0 hb (hk2.out X)
 ·exact OpOk.l (x := .tmp 3) hk.1 (on_blk_mul (H3.out.below hT)) hu4 HsNn.out
 ·exact OpOk.c0 hb (hk3.out X)
 ·exact OpOk.c3 (fX ev 10 hf.1) (fX ev 11 hf.2.1) (fX ev 12 hf.2.2.1) hb (hk4.out X)
 ·exact OpOk.c1 (fX ev 13 hf.1) hb (hk5.out X)
 intro w4 hX
 iterate 5 rintro _ rfl
 obtain ⟨H4, S4⟩ := nx H3.out S3.out hX
 clear hX H3 S3
 go_wp2
 refine Rest.done ?_
 have gR := on_blk_mul H4.out.right.right
 have HB := hide (all_below H4.out.right.right.right.right S4.out)
 go_wp2_with (first
  | (refine wS gR HsPb HzPb HoPb ?_))
 exact retR Tryz.results5 gR hub HsPb.out rfl HB.out (by omega)
theorem msign_any (n : Nat) (hn : n < 256 ^ 32) (v : Value) (m : List UInt8) (w : World) (h : IsBytes w v m) (hm : m.length ≤ 10000) :
  Calls Tryz.prog 6 #[.agg (zB n), v] w fun e w' => e = .returned (.agg (gC (sigRN n m) (Sg.sigT (bl n) m))) ∧ Below w.heap.size w w' := by
 have hub := Tryz.underlying22
 have hu4 := Tryz.underlying51
 have huh := Tryz.underlying25
 have hzB := zBZero
 have hzL := eZero4
 have hzH := hZero
 have h0 := ((on_all w).alloc (.cells (zB n) 22)).alloc (.cells (gC 0 0) 25)
 have s0 := ((Str.refl w).alloc (.cells (zB n) 22)).alloc (.cells (gC 0 0) 25)
 try simp only [World.size_alloc] at h0
 have H1 := hide h0
 have S1 := hide s0
 clear h0 s0
 have hu8s := Tryz.underlying35
 have hu8 := Tryz.underlying5
 have hlt := Sg.secN_lt (bl n)
 have hlr := Nat.lt_trans (Sg.rN_lt (bl n) m) Sg.O6_32
 have hlr0 := Sg.rN_lt (bl n) m
 have hlk := Sg.chalN_lt (Ed.enc (Sg.sigP (bl n) m) ++ Sg.pubB (bl n) ++ m)
 change Sg.sigK (bl n) m < O6 at hlk
 have hlT := Nat.lt_trans (Sg.sigT_lt (bl n) m) Sg.O6_32
 have hO0 : 0 < O6 := Sg.O6_pos
 have hlg : Sg.secN (bl n) % O6 < O6 := Nat.mod_lt _ hO0
 have hlm : Sg.sigK (bl n) m * (Sg.secN (bl n) % O6) % O6 < O6 := Nat.mod_lt _ hO0
 have hlg4 : Sg.secN (bl n) % O6 < 18446744073709551616 ^ 4 := by rw [q256]; exact Nat.lt_trans hlg Sg.O6_32
 have hk1 := hide (fun X => msecret_any n hn X)
 have hk2 := hide (fun X => mbase_any X)
 have hk3 := hide (fun X => md_any X)
 have hk4 := hide (fun X => mbase_times (Sg.rN (bl n) m) hlr X)
 have k5 := fun X => mbase_enc (Sg.rN (bl n) m) hlr X
 change ∀ X, Calls Tryz.prog 15 #[.agg (tpC (Ed.Tp.times (tOf Ed.Pt.base) (Sg.rN (bl n) m) 256))] X fun e w' => e = .returned (.agg (zB (sigRN n m))) ∧ Below X.heap.size X w' at k5
 have hk5 := hide k5
 have hk6 := hide (fun X => mpublic_any n hn X)
 have h64 : (Sg.secR (bl n)).length = 32 := Sg.secR_len (bl n)
 have f1 : [Sg.secR (bl n), m].flatten = Sg.secR (bl n) ++ m := by simp
 have f2 : [bl (sigRN n m), bl (pubN n), m].flatten = bl (sigRN n m) ++ bl (pubN n) ++ m := by simp
 have k7 := fun u X (hr : IsRows X u [Sg.secR (bl n), m]) => mhash_any u [Sg.secR (bl n), m] X hr (by simp) (by rw [f1, List.length_append, h64]; omega)
 rw [f1] at k7
 change ∀ u X, IsRows X u [Sg.secR (bl n), m] → Calls Tryz.prog 19 #[u] X fun e w' => e = .returned (.agg (q4 (Sg.rN (bl n) m))) ∧ Below X.heap.size X w' at k7
 have hk7 := hide k7
 have k8 := fun u X (hr : IsRows X u [bl (sigRN n m), bl (pubN n), m]) => mhash_any u [bl (sigRN n m), bl (pubN n), m] X hr (by simp) (by rw [f2, List.length_append, List.length_append, bl_len, bl_len]; omega)
 rw [f2] at k8
 change ∀ u X, IsRows X u [bl (sigRN n m), bl (pubN n), m] → Calls Tryz.prog 19 #[u] X fun e w' => e = .returned (.agg (q4 (Sg.sigK (bl n) m))) ∧ Below X.heap.size X w' at k8
 have hk8 := hide k8
 have hk9 := hide (fun X => bytesL_zB (Sg.secN (bl n)) hlt X)
 have k10 := fun u X (hb : IsBytes X u (bl (Sg.secN (bl n)))) => rreduce_any u _ X hb (by rw [bl_len]; omega)
 rw [leN_bl _ hlt] at k10
 have hk10 := hide k10
 have hk11 := hide (fun X => mulL_any (Sg.sigK (bl n) m) (Sg.secN (bl n) % O6) hlk hlg4 X)
 have k12 := fun X => addL_any (Sg.rN (bl n) m) (Sg.sigK (bl n) m * (Sg.secN (bl n) % O6) % O6) hlr0 hlm X
 change ∀ X, Calls Tryz.prog 21 #[.agg (q4 (Sg.rN (bl n) m)), .agg (q4 (Sg.sigK (bl n) m * (Sg.secN (bl n) % O6) % O6))] X fun e w' => e = .returned (.agg (q4 (Sg.sigT (bl n) m))) ∧ Below X.heap.size X w' at k12
 have hk12 := hide k12
 have hk13 := hide (fun X => bytesL_zB (Sg.sigT (bl n) m) hlT X)
 have HlR := hide (fun X g (F : SP) t => zB_lay (X := X) (g := g) (F := F) (n := sigRN n m) (t := t))
 have HlP := hide (fun X g (F : SP) t => zB_lay (X := X) (g := g) (F := F) (n := pubN n) (t := t))
 have HlN := hide (fun X g (F : SP) t => zB_lay (X := X) (g := g) (F := F) (n := Sg.secN (bl n)) (t := t))
 have Hcl : Hid ((Sg.clampL (Sha64.digest (bl n))).length = 64) := hide (by rw [Sg.clampL_len, Sha64.digest_len])
 have HcR : Hid (∀ (k : Nat) (x : UInt8), (bl (sigRN n m))[k]? = some x → (zB (sigRN n m))[k]? = some (vb x)) := hide (fun k x h => zb_get _ k x h)
 have HcT : Hid (∀ (k : Nat) (x : UInt8), (bl (Sg.sigT (bl n) m))[k]? = some x → (zB (Sg.sigT (bl n) m))[k]? = some (vb x)) := hide (fun k x h => zb_get _ k x h)
 have HlenR := hide (bl_len (sigRN n m))
 have HlenT := hide (bl_len (Sg.sigT (bl n) m))
 have Hend : Hid (zb (oL (bl (sigRN n m)) (bl (Sg.sigT (bl n) m)) 32) = gC (sigRN n m) (Sg.sigT (bl n) m)) := hide (congrArg zb (oL_32 _ _ HlenR.out HlenT.out))
 have Hbeg : Hid (zb (oL (bl (sigRN n m)) (bl (Sg.sigT (bl n) m)) 0) = gC 0 0) := hide (by rw [g0, oL_0])
 have HM := hide h
 obtain ⟨ma, mc, rfl, hmc, hmm, _, _⟩ := h
 unfold maxLen at hmm
 clear k5 k7 k8 k10 k12 hlt hlr hlr0 hlk hlT hO0 hlg hlm hlg4 h64 f1 f2 hn
 obtain ⟨HsSs, HoSs, HzSs⟩ := b3 (zBInfo n) (zBOne n) (zBSize 0 n)
 obtain ⟨HsPb, HoPb, HzPb⟩ := b3 (zBInfo (pubN n)) (zBOne (pubN n)) (zBSize 0 (pubN n))
 obtain ⟨HsNn, HoNn, HzNn⟩ := b3 (eInfo4 (Sg.secN (bl n))) (eOne (Sg.secN (bl n))) (eSize 0 (Sg.secN (bl n)))
 obtain ⟨HsRn, HoRn, HzRn⟩ := b3 (eInfo4 (Sg.rN (bl n) m)) (eOne (Sg.rN (bl n) m)) (eSize 0 (Sg.rN (bl n) m))
 obtain ⟨HsRb, HoRb, HzRb⟩ := b3 (zBInfo (sigRN n m)) (zBOne (sigRN n m)) (zBSize 0 (sigRN n m))
 obtain ⟨HsKn, HoKn, HzKn⟩ := b3 (eInfo4 (Sg.sigK (bl n) m)) (eOne (Sg.sigK (bl n) m)) (eSize 0 (Sg.sigK (bl n) m))
 obtain ⟨HsNb, HoNb, HzNb⟩ := b3 (zBInfo (Sg.secN (bl n))) (zBOne (Sg.secN (bl n))) (zBSize 0 (Sg.secN (bl n)))
 obtain ⟨HsNg, HoNg, HzNg⟩ := b3 (eInfo4 (Sg.secN (bl n) % O6)) (eOne (Sg.secN (bl n) % O6)) (eSize 0 (Sg.secN (bl n) % O6))
 obtain ⟨HsMg, HoMg, HzMg⟩ := b3 (eInfo4 (Sg.sigK (bl n) m * (Sg.secN (bl n) % O6) % O6)) (eOne (Sg.sigK (bl n) m * (Sg.secN (bl n) % O6) % O6)) (eSize 0 (Sg.sigK (bl n) m * (Sg.secN (bl n) % O6) % O6))
 obtain ⟨HsTn, HoTn, HzTn⟩ := b3 (eInfo4 (Sg.sigT (bl n) m)) (eOne (Sg.sigT (bl n) m)) (eSize 0 (Sg.sigT (bl n) m))
 obtain ⟨HsTb, HoTb, HzTb⟩ := b3 (zBInfo (Sg.sigT (bl n) m)) (zBOne (Sg.sigT (bl n) m)) (zBSize 0 (Sg.sigT (bl n) m))
 obtain ⟨HsGs, HoGs, HzGs⟩ := b3 (hInfo (sigRN n m) (Sg.sigT (bl n) m)) (gOne (sigRN n m) (Sg.sigT (bl n) m)) (gSize 0 0 (sigRN n m) (Sg.sigT (bl n) m))
 generalize zB n = Ss at *
 generalize zB (pubN n) = Pb at *
 generalize q4 (Sg.secN (bl n)) = Nn at *
 generalize q4 (Sg.rN (bl n) m) = Rn at *
 generalize zB (sigRN n m) = Rb at *
 generalize q4 (Sg.sigK (bl n) m) = Kn at *
 generalize zB (Sg.secN (bl n)) = Nb at *
 generalize q4 (Sg.secN (bl n) % O6) = Ng at *
 generalize q4 (Sg.sigK (bl n) m * (Sg.secN (bl n) % O6) % O6) = Mg at *
 generalize q4 (Sg.sigT (bl n) m) = Tn at *
 generalize zB (Sg.sigT (bl n) m) = Tb at *
 generalize gC (sigRN n m) (Sg.sigT (bl n) m) = Gs at *
 generalize zB 0 = ZB at *
 generalize q4 0 = Z4 at *
 generalize gC 0 0 = ZH at *
 generalize tpC (Ed.Tp.times (tOf Ed.Pt.base) (Sg.rN (bl n) m) 256) = TM at *
 generalize tpC (tOf Ed.Pt.base) = TB at *
 generalize n17 Ed.dN = Dd at *
 generalize Sg.secR (bl n) = sR at *
 generalize Sg.clampL (Sha64.digest (bl n)) = cl at *
 generalize bl (sigRN n m) = lR at *
 generalize bl (pubN n) = lP at *
 generalize bl (Sg.secN (bl n)) = lN at *
 generalize bl (Sg.sigT (bl n) m) = lT at *
 go_enter Tryz.func6, Tryz.ntmps6
 refine wp_seq_h fun K2 hK2 => ?_
 go_wp2
 refine hK2.out _ _ ?_
 clear hK2 K2
 generalize (w.alloc (.cells Ss 22)).alloc (.cells ZH 25) = w1 at *
 have gA := on_blk_mul H1.out.right
 go_wp2_with (first
  | (refine wL gA hub HsSs ?_))
 clear gA
 refine (hk1.out _).mono ?_
 rintro e w2 ⟨og, oc, u, rfl, ho, hu, hs⟩
 have H2 := hide (on_all_to ho H1.out)
 have S2 := hide (S1.out.trans hs)
 have HU := hide hu
 clear ho hu hs H1 S1
 have hsl := HU.out _ (own_bytes H2.out)
 obtain ⟨ua, uc, rfl, _⟩ := hsl
 obtain ⟨gN, gM, H3, S3⟩ := newV H2.out S2.out Z4 Nn 51
 have gL0 := on_blk_mul H3.out.right.right.right
 go_wp2_with (first
  | (refine wS gN HsNn HzNn HoNn ?_)
  | (refine wL gL0 hub HsSs ?_))
 clear gL0
 generalize (w2.alloc (.cells Z4 51)).setRow w2.heap.size Nn = w3 at *
 clear gN gM H2 S2
 generalize w2.heap.size = p5 at *
 refine (hk6.out _).mono ?_
 rintro e w4 ⟨rfl, hB⟩
 obtain ⟨H4, S4⟩ := nx H3.out S3.out hB
 clear hB H3 S3
 obtain ⟨gN, gM, H5, S5⟩ := newV H4.out S4.out ZB Pb 22
 go_wp2_with (first
  | (refine wS gN HsPb HzPb HoPb ?_))
 have hsz : ((w4.alloc (.cells ZB 22)).setRow w4.heap.size Pb).heap.size = w4.heap.size + 1 := by simp [World.setRow]
 generalize (w4.alloc (.cells ZB 22)).setRow w4.heap.size Pb = w5 at *
 clear gN gM H4 S4
 generalize w4.heap.size = p7 at *
 have hr := IsRows.new2 (w := w5) (HU.out _ (own_bytes (H5.out.right.right))) (HM.out.below (all_below H5.out.right.right.right.right.right S5.out)) 35
 rw [hsz] at hr
 clear hsz
 refine (hk7.out _ _ hr).mono ?_
 clear hr
 rintro e w6 ⟨rfl, hB⟩
 have H6 := hide ((SP.on.alloc' H5.out _).below hB)
 have S6 := hide ((S5.out.alloc _).trans (Str.below hB))
 clear hB H5 S5
 obtain ⟨gN, gM, H7, S7⟩ := newV H6.out S6.out Z4 Rn 51
 go_wp2_with (first
  | (refine wS gN HsRn HzRn HoRn ?_))
 generalize (w6.alloc (.cells Z4 51)).setRow w6.heap.size Rn = w7 at *
 clear gN gM H6 S6
 generalize w6.heap.size = p8 at *
 refine wp_tail 6 [isV (.agg TB), isV (.agg Rn), isV (.agg Dd), isV (.agg TM), isV (.agg Rb), Fresh w7.heap.size (.cells ZB 22 (0, 0))] ?t112 ?r129 (hk := kF)
 case' t112 => refine ⟨?_, ?_, ?_, ?_, ?_, ?_, trivial⟩ <;> intro ev X hT hb hk hf
 ·exact OpOk.c0 hb (hk2.out X)
 ·exact OpOk.l (x := .tmp 8) hk.1 (on_blk_mul (H7.out.below hT)) hu4 HsRn.out
 ·exact OpOk.c0 hb (hk3.out X)
 ·exact OpOk.c3 (fX ev 26 hf.1) (fX ev 27 hf.2.1) (fX ev 28 hf.2.2.1) hb (hk4.out X)
 ·exact OpOk.c1 (fX ev 29 hf.1) hb (hk5.out X)
 ·exact OpOk.al hT.size (by simp [execOp, hzB, go_sem])
 intro w8 hX
 rintro _ rfl _ rfl _ rfl _ rfl _ rfl _ ⟨g9, rfl, hgg9, hcg9⟩
 have H8 := hide (on_fresh H7.out hX hgg9 hcg9)
 have S8 := hide (S7.out.trans (Str.below hX))
 clear hX H7 S7 hgg9 hcg9
 go_wp2
 refine Rest.done ?_
 have H9 := hide (st0 H8.out (cs := Rb))
 have S9 := hide (S8.out.setRow (g9) Rb)
 have gW := on_blk_mul H8.out
 go_wp2_with (first
  | (refine wS gW HsRb HzRb HoRb ?_))
 generalize w8.setRow (g9) Rb = w9 at *
 clear gW H8 S8
 refine wp_tail 6 [isV (.slice (some ⟨g9, 0, .none⟩) 32 32), isV (.slice (some ⟨p7, 0, .none⟩) 32 32), isV (.slice ma m.length mc), fun v X => IsRows X v [lR, lP, m], isV (.agg Kn), Fresh w9.heap.size (.cells Z4 51 (0, 0))] ?t113 ?r130 (hk := ?keep)
 case keep => exact ⟨Keep.isV _, Keep.isV _, Keep.isV _, fun _ _ _ h k => IsRows.below h k, Keep.isV _, Fresh.keep, trivial⟩
 case' t113 => refine ⟨?_, ?_, ?_, ?_, ?_, ?_, trivial⟩ <;> intro ev X hT hb hk hf
 ·exact OpOk.r (by simp [execOp, fV ev 9 (.pointer (some ⟨g9, 0, .none⟩)) hk.1, hub, go_sem])
 ·exact OpOk.r (by simp [execOp, fV ev 7 (.pointer (some ⟨p7, 0, .none⟩)) hk.1, hub, go_sem])
 ·exact OpOk.m rfl hk.1
 ·exact OpOk.run (v := .slice (some ⟨X.heap.size, 0, .none⟩) 3 3) (W' := X.alloc (.cells #[.slice (some ⟨g9, 0, .none⟩) 32 32, .slice (some ⟨p7, 0, .none⟩) 32 32, .slice ma m.length mc] 35)) (by simp [execOp, fX ev 31 hf.1, fX ev 32 hf.2.1, fX ev 33 hf.2.2.1, run_rr3]) ⟨rows_three (HlR.out X g9 _ _ ((H9.out.below hT))) (HlP.out X p7 _ _ ((H9.out.below hT).right.right)) (HM.out.below (all_below (H9.out.below hT).right.right.right.right.right.right.right (S9.out.trans (Str.below hT)))) 35, (Below.refl X.heap.size X).alloc (Nat.le_refl _) _⟩
 ·have e0 : IsRows X (ev (.tmp 34)) [lR, lP, m] := hf.1
  have e0 : IsRows X (ev (.tmp 34)) [lR, lP, m] := hf.1
  exact OpOk.c0 hb (hk8.out _ X e0)
 ·exact OpOk.al hT.size (by simp [execOp, hzL, go_sem])
 intro w10 hX
 rintro _ rfl _ rfl _ rfl _ - _ rfl _ ⟨g10, rfl, hgg10, hcg10⟩
 have H10 := hide (on_fresh H9.out hX hgg10 hcg10)
 have S10 := hide (S9.out.trans (Str.below hX))
 clear hX H9 S9 hgg10 hcg10
 go_wp2
 refine Rest.done ?_
 have H11 := hide (st0 H10.out (cs := Kn))
 have S11 := hide (S10.out.setRow (g10) Kn)
 have gW := on_blk_mul H10.out
 have gL := on_blk_mul H11.out.right.right.right.right
 go_wp2_with (first
  | (refine wS gW HsKn HzKn HoKn ?_)
  | (refine wL gL hu4 HsNn ?_))
 clear gL
 generalize w10.setRow (g10) Kn = w11 at *
 clear gW H10 S10
 refine (hk9.out _).mono ?_
 rintro e w12 ⟨rfl, hB⟩
 obtain ⟨H12, S12⟩ := nx H11.out S11.out hB
 clear hB H11 S11
 obtain ⟨gN, gM, H13, S13⟩ := newV H12.out S12.out ZB Nb 22
 go_wp2_with (first
  | (refine wS gN HsNb HzNb HoNb ?_))
 generalize (w12.alloc (.cells ZB 22)).setRow w12.heap.size Nb = w13 at *
 clear gN gM H12 S12
 generalize w12.heap.size = p11 at *
 refine wp_tail 8 [isV (.agg Rn), isV (.agg Kn), isV (.slice (some ⟨p11, 0, .none⟩) 32 32), isV (.agg Ng), isV (.agg Mg), isV (.agg Tn), isV (.agg Tb), Fresh w13.heap.size (.cells ZB 22 (0, 0))] ?t114 ?r131 (hk := kF)
 case' t114 => refine ⟨?_, ?_, ?_, ?_, ?_, ?_, ?_, ?_, trivial⟩ <;> intro ev X hT hb hk hf
 ·exact OpOk.l (x := .tmp 8) hk.1 (on_blk_mul (H13.out.below hT).right.right.right) hu4 HsRn.out
 ·exact OpOk.l (x := .tmp 10) hk.1 (on_blk_mul (H13.out.below hT).right) hu4 HsKn.out
 ·exact OpOk.r (by simp [execOp, fV ev 11 (.pointer (some ⟨p11, 0, .none⟩)) hk.1, hub, go_sem])
 ·exact OpOk.c1 (fX ev 40 hf.1) hb (hk10.out _ X (HlN.out X p11 _ _ ((H13.out.below hT))))
 ·exact OpOk.c2 (fX ev 39 hf.1) (fX ev 41 hf.2.1) hb (hk11.out X)
 ·exact OpOk.c2 (fX ev 38 hf.1) (fX ev 42 hf.2.1) hb (hk12.out X)
 ·exact OpOk.c1 (fX ev 43 hf.1) hb (hk13.out X)
 ·exact OpOk.al hT.size (by simp [execOp, hzB, go_sem])
 intro w14 hX
 rintro _ rfl _ rfl _ rfl _ rfl _ rfl _ rfl _ rfl _ ⟨g12, rfl, hgg12, hcg12⟩
 have H14 := hide (on_fresh H13.out hX hgg12 hcg12)
 have S14 := hide (S13.out.trans (Str.below hX))
 clear hX H13 S13 hgg12 hcg12
 go_wp2
 refine Rest.done ?_
 have H15 := hide (st0 H14.out (cs := Tb))
 have S15 := hide (S14.out.setRow (g12) Tb)
 have gW := on_blk_mul H14.out
 have h9 := H15.out
 rw [show (blk (g12) (.cells Tb 22 (0, 0)) * (blk (p11) (.cells Nb 22 (0, 0)) * (blk (g10) (.cells Kn 51 (0, 0)) * (blk (g9) (.cells Rb 22 (0, 0)) * (blk (p8) (.cells Rn 51 (0, 0)) * (blk (p7) (.cells Pb 22 (0, 0)) * (blk (p5) (.cells Nn 51 (0, 0)) * (own 5 1 (.slice (some ⟨og, 0, .none⟩) 64 oc) 64 (vbs cl) * (blk (w.heap.size + 1) (.cells ZH 25 (0, 0)) * (blk (w.heap.size) (.cells Ss 22 (0, 0)) * all w)))))))))) = (blk (p11) (.cells Nb 22 (0, 0)) * (blk (g10) (.cells Kn 51 (0, 0)) * (blk (p8) (.cells Rn 51 (0, 0)) * (blk (p7) (.cells Pb 22 (0, 0)) * (blk (p5) (.cells Nn 51 (0, 0)) * (own 5 1 (.slice (some ⟨og, 0, .none⟩) 64 oc) 64 (vbs cl) * (blk (g12) (.cells Tb 22 (0, 0)) * (blk (g9) (.cells Rb 22 (0, 0)) * (blk (w.heap.size + 1) (.cells ZH 25 (0, 0)) * (blk (w.heap.size) (.cells Ss 22 (0, 0)) * all w)))))))))) by ac_rfl] at h9
 have h8 : (blk (g12) (.cells Tb 22 (0, 0)) * (blk (g9) (.cells Rb 22 (0, 0)) * (blk (w.heap.size + 1) (.cells ZH 25 (0, 0)) * (blk (w.heap.size) (.cells Ss 22 (0, 0)) * all w)))).on _ := SP.on.right (SP.on.right (SP.on.right (SP.on.right (SP.on.right (SP.on.right (h9))))))
 clear h9
 have h7 := h8.alloc (.cells ZH 25)
 have sz : (w14.setRow g12 Tb).heap.size = w14.heap.size := by simp [World.setRow]
 rw [sz] at h7
 have H16 := hide h7
 have S16 := hide (S15.out.alloc (.cells ZH 25))
 clear h7 h8 sz
 go_wp2_with (first
  | (refine wS gW HsTb HzTb HoTb ?_))
 generalize (w14.setRow (g12) Tb).alloc (.cells ZH 25) = w16 at *
 generalize w14.heap.size = p13 at *
 clear gW H14 S14 H15 S15
 go_loopw [14] (fun i wr => ∃ k : Nat, k ≤ 32 ∧ i = .int .i64 k ∧ (blk p13 (.cells (zb (oL lR lT k)) 25 (0, 0)) * (blk (g12) (.cells Tb 22 (0, 0)) * (blk (g9) (.cells Rb 22 (0, 0)) * (blk (w.heap.size + 1) (.cells ZH 25 (0, 0)) * (blk (w.heap.size) (.cells Ss 22 (0, 0)) * all w))))).on wr ∧ Str w wr) (fun i _ => 32 - (intOf i).toNat)
 case atStart => exact ⟨0, by omega, rfl, by rw [Hbeg.out]; exact H16.out, S16.out⟩
 obtain ⟨k, hk, rfl, hX, hS2⟩ := hrel
 have HXk := hide hX
 have HSk := hide hS2
 clear hX hS2 H16 S16
 by_cases hlt : k < 32
 ·obtain ⟨x, hx⟩ : ∃ x, lR[k]? = some x := ⟨_, List.getElem?_eq_getElem (by rw [HlenR.out]; exact hlt)⟩
  obtain ⟨y, hy⟩ : ∃ y, lT[k]? = some y := ⟨_, List.getElem?_eq_getElem (by rw [HlenT.out]; exact hlt)⟩
  obtain ⟨ox, hox⟩ := oL_get lR lT k k HlenR.out HlenT.out (by omega) (by omega)
  obtain ⟨oy, hoy⟩ := oL_get lR lT k (32 + k) HlenR.out HlenT.out (by omega) (by omega)
  have hcx := (cell_of_row wr g9 k _ _ _ (on_blk_mul (SP.on.right (SP.on.right HXk.out)))).trans (HcR.out k x hx)
  have hc1 := zbCell HXk.out k ox hox
  have hfr1 := frozen_of_row wr p13 k _ _ (on_blk_mul HXk.out)
  have h1 := zbSet HXk.out k x
  have hcy := (cell_of_row _ g12 k _ _ _ (on_blk_mul (SP.on.right h1))).trans (HcT.out k y hy)
  have hoy2 : ((oL lR lT k).set k x)[32 + k]? = some oy := by rw [List.getElem?_set_ne (by omega)]; exact hoy
  have hc2 := zbCell h1 (32 + k) oy hoy2
  have hfr2 := frozen_of_row _ p13 (32 + k) _ _ (on_blk_mul h1)
  have h2 := zbSet h1 (32 + k) y
  rw [oL_step lR lT k x y hx hy hlt] at h2
  have HN := hide h2
  have hk32 : (k : Int) < 32 := by omega
  have hk64 : (k : Int) < 64 := by omega
  have s1 : IntKind.i64.wrap (32 + (k : Int)) = ((32 + k : Nat) : Int) := by rw [IntWalk.i64_in _ (by omega)]; omega
  have hj64 : ((32 + k : Nat) : Int) < 64 := by omega
  obtain ⟨q, hq⟩ : ∃ q, q = 32 + k := ⟨_, rfl⟩
  rw [← hq] at s1 hj64 hc2 hfr2 HN
  have s2 : (32 + (k : Int)) = (q : Int) := by omega
  clear h1 h2 hx hy hox hoy hoy2 hq
  go_wp2
  exact ⟨⟨k + 1, by omega, by simp, HN.out, (HSk.out.setCell _ _).setCell _ _⟩, by simp [intOf]; omega⟩
 obtain rfl : k = 32 := by omega
 rw [Hend.out] at HXk
 have g0 := on_blk_mul HXk.out
 have gR := on_blk_mul (SP.on.right (SP.on.right (SP.on.right HXk.out)))
 have HB := hide (all_below (SP.on.right (SP.on.right (SP.on.right (SP.on.right (SP.on.right HXk.out))))) HSk.out)
 go_wp2_with (first
  | (refine wS gR HsGs HzGs HoGs ?_)
  | (refine wL g0 huh HsGs ?_))
 exact retR Tryz.results6 gR huh HsGs.out rfl HB.out (by omega)
theorem decW_cases (n : Nat) : ∃ (A : Array Value) (b : Bool), decW n = .tuple #[.agg A, .bool b] ∧ (Tryz.prog.info? 58).map (·.size) = some A.size ∧ A.all (·.oneCell') = true ∧ (mC 0 0 0).size = A.size ∧
  ((b = true ∧ ∃ p, Ed.decPt (bl n) = some p ∧ A = tpC (tOf p)) ∨ (b = false ∧ Ed.decPt (bl n) = Option.none)) := by
 unfold decW
 cases h : Ed.decPt (bl n) with
 | none => exact ⟨_, _, rfl, mInfo 0 0 0, mC_one 0 0 0, rfl, .inr ⟨rfl, rfl⟩⟩
 | some p => exact ⟨_, _, rfl, mInfo _ _ _, mC_one _ _ _, mSize _ _ _ _ _ _, .inl ⟨rfl, p, rfl, (tOf_cells p).symm⟩⟩
theorem ver_take7 (r s : Nat) : (bl r ++ bl s).take 32 = bl r ∧ (bl r ++ bl s).drop 32 = bl s := by
 have h := bl_len r
 rw [List.take_append_of_le_length (by omega), List.take_of_length_le (by omega), List.drop_append_of_le_length (by omega), List.drop_of_length_le (by omega)]
 exact ⟨rfl, rfl⟩
theorem rver_no1 (k r s : Nat) (m : List UInt8) (h : Ed.decPt (bl k) = Option.none) : Sg.verB (bl k) (bl r ++ bl s) m = false := by
 unfold Sg.verB Ed.verify
 rw [h]
theorem rver_no2 (k r s : Nat) (m : List UInt8) (h : Ed.decPt (bl r) = Option.none) : Sg.verB (bl k) (bl r ++ bl s) m = false := by
 unfold Sg.verB Ed.verify
 rw [(ver_take7 r s).1, h]
 cases Ed.decPt (bl k) <;> rfl
theorem rver_no3 (k r s : Nat) (hs : s < 256 ^ 32) (m : List UInt8) (h : ¬ s < O6) : Sg.verB (bl k) (bl r ++ bl s) m = false := by
 unfold Sg.verB Ed.verify
 rw [(ver_take7 r s).1, (ver_take7 r s).2, leN_bl s hs, decide_eq_false h]
 cases Ed.decPt (bl k) <;> cases Ed.decPt (bl r) <;> rfl
theorem rver_is (k r s : Nat) (hs : s < 256 ^ 32) (m : List UInt8) (a p : Ed.Pt) (h1 : Ed.decPt (bl k) = some a) (h2 : Ed.decPt (bl r) = some p) (h : s < O6) :
  Sg.verB (bl k) (bl r ++ bl s) m = decide (Ed.Pt.base.mul s = p.sum (a.mul (Sg.chalN (bl r ++ bl k ++ m)))) := by
 unfold Sg.verB Ed.verify
 rw [(ver_take7 r s).1, (ver_take7 r s).2, h1, h2]
 dsimp only
 rw [leN_bl s hs, decide_eq_true h, Bool.true_and]
 rfl
def hL (a : List UInt8) (k : Nat) : List UInt8 := a.take k ++ (List.replicate 32 0).drop k
theorem hL_0 (a : List UInt8) : zb (hL a 0) = zB 0 := by
 show zb ([] ++ List.replicate 32 0) = zb (bl 0)
 rw [bl_0]; rfl
theorem hL_32 (n : Nat) : zb (hL (bl n) 32) = zB n := by
 show zb ((bl n).take 32 ++ []) = zb (bl n)
 rw [List.append_nil, List.take_of_length_le (by rw [bl_len]; omega)]
theorem hL_get (n k j : Nat) (hk : k ≤ 32) (hj : j < 32) : ∃ x, (hL (bl n) k)[j]? = some x :=
 ⟨_, List.getElem?_eq_getElem (by simp [hL, bl_len]; omega)⟩
theorem hL_step (a : List UInt8) (k : Nat) (x : UInt8) (h : a[k]? = some x) (hk : k < 32) : (hL a k).set k x = hL a (k + 1) := half_set a _ k x h (by simp; omega)
theorem gC_1 (r s k : Nat) (x : UInt8) (h : (bl r)[k]? = some x) : (gC r s)[k]? = some (vb x) := by
 have hk : k < (bl r).length := (List.getElem?_eq_some_iff.1 h).1
 exact zb_get _ _ _ (by rw [List.getElem?_append_left hk]; exact h)
theorem gC_2 (r s k : Nat) (x : UInt8) (h : (bl s)[k]? = some x) : (gC r s)[32 + k]? = some (vb x) := by
 refine zb_get _ _ _ ?_
 rw [List.getElem?_append_right (by rw [bl_len]; omega), bl_len, Nat.add_sub_cancel_left]; exact h
theorem mverify_any (k0 r s : Nat) (hk : k0 < 256 ^ 32) (hr : r < 256 ^ 32) (hs : s < 256 ^ 32) (v : Value) (m : List UInt8) (w : World) (h : IsBytes w v m) (hm : m.length ≤ 10000) :
  Calls Tryz.prog 30 #[.agg (zB k0), v, .agg (gC r s)] w fun e w' => e = .returned (.bool (Sg.verB (bl k0) (bl r ++ bl s) m)) ∧ Below w.heap.size w w' := by
 have hub := Tryz.underlying22
 have huh := Tryz.underlying25
 have hu4 := Tryz.underlying51
 have hun := Tryz.underlying56
 have hum := Tryz.underlying58
 have hzB := zBZero
 have hzH := hZero
 have hzL := eZero4
 have hzN := nZero
 have hzM := mZero
 have h0 := ((on_all w).alloc (.cells (zB k0) 22)).alloc (.cells (gC r s) 25)
 have s0 := ((Str.refl w).alloc (.cells (zB k0) 22)).alloc (.cells (gC r s) 25)
 try simp only [World.size_alloc] at h0
 have H1 := hide h0
 have S1 := hide s0
 clear h0 s0
 have hu8s := Tryz.underlying35
 have hu8 := Tryz.underlying5
 have hu6 := Tryz.underlying50
 have hcl := Sg.chalN_lt (bl r ++ bl k0 ++ m)
 have hcl2 : Sg.chalN (bl r ++ bl k0 ++ m) < 256 ^ 32 := Nat.lt_trans hcl Sg.O6_32
 have Hget := hide (fun k (hk : k < 32) => zb_get _ k _ (bl_get s k hk))
 change Hid (∀ (k : Nat), k < 32 → (zB s)[k]? = some (vb (UInt8.ofNat (s / 256 ^ k % 256)))) at Hget
 have H32 := hide (show lvs (lw s 32) = q4 0 from congrArg lvs (lw_32 s))
 have Hl0 := hide (show lvs (lw s 0) = q4 s from congrArg lvs (lw_0 s))
 have hn1 := fun h => rver_no1 k0 r s m h
 have hn2 := fun h => rver_no2 k0 r s m h
 have hn3 := fun h => rver_no3 k0 r s hs m h
 have hv1 := fun a p h1 h2 h => rver_is k0 r s hs m a p h1 h2 h
 have hk1 := hide (fun X => mdecode_any k0 hk X)
 have hk2 := hide (fun X => mdecode_any r hr X)
 have k3 := fun X => belowL_any s (by rw [q256]; exact hs) X
 obtain ⟨bS, hbS⟩ : ∃ b, b = decide (s < O6) := ⟨_, rfl⟩
 rw [← hbS] at k3
 have hk3 := hide k3
 have HcS : Hid ((bS = true ∧ s < O6) ∨ (bS = false ∧ ¬ s < O6)) := hide (by
  by_cases h9 : s < O6
  ·exact .inl ⟨by rw [hbS, decide_eq_true h9], h9⟩
  exact .inr ⟨by rw [hbS, decide_eq_false h9], h9⟩)
 have hk4 := hide (fun X => md_any X)
 have hk5 := hide (fun X => mbase_any X)
 have f2 : [bl r, bl k0, m].flatten = bl r ++ bl k0 ++ m := by simp
 have k6 := fun u X (hr : IsRows X u [bl r, bl k0, m]) => mhash_any u [bl r, bl k0, m] X hr (by simp) (by rw [f2, List.length_append, List.length_append, bl_len, bl_len]; omega)
 rw [f2] at k6
 have hk6 := hide k6
 have hk7 := hide (fun X => mbase_times s hs X)
 have hk8 := hide (fun p X => mtimes_any (tOf p) (Sg.chalN (bl r ++ bl k0 ++ m)) (by rw [q256]; exact hcl2) X)
 have hk9 := hide (fun (p q : Ed.Pt) X => madd_any (tOf q) (Ed.Tp.times (tOf p) (Sg.chalN (bl r ++ bl k0 ++ m)) 256) X)
 have hk10 := hide (fun (p q : Ed.Pt) X => msame_any (Ed.Tp.times_all (tOf_has Ed.Pt.base) s (by rw [← q2256]; exact hs)) (Ed.Tp.add_has (tOf_has q) (Ed.Tp.times_all (tOf_has p) (Sg.chalN (bl r ++ bl k0 ++ m)) (by rw [← q2256]; exact hcl2))) X)
 have HlR := hide (fun X g (F : SP) t => zB_lay (X := X) (g := g) (F := F) (n := r) (t := t))
 have HlK := hide (fun X g (F : SP) t => zB_lay (X := X) (g := g) (F := F) (n := k0) (t := t))
 have HgR := hide (fun k (hk : k < 32) => (bl_get r k hk))
 have HgS := hide (fun k (hk : k < 32) => (bl_get s k hk))
 have HcG1 := hide (fun k x h => gC_1 r s k x h)
 have HcG2 := hide (fun k x h => gC_2 r s k x h)
 have HbR := hide (hL_0 (bl r))
 have HbS := hide (hL_0 (bl s))
 have HeR := hide (hL_32 r)
 have HeS := hide (hL_32 s)
 obtain ⟨PA, bA, edA, sA, oA, zA, cA⟩ := decW_cases k0
 obtain ⟨PR, bR, edR, sR, oR, zR, cR⟩ := decW_cases r
 rw [edA] at hk1
 rw [edR] at hk2
 have HsPA := hide sA
 have HoPA := hide oA
 have HzPA := hide zA
 have HsPR := hide sR
 have HoPR := hide oR
 have HzPR := hide zR
 have HcA := hide cA
 have HcR := hide cR
 have HM := hide h
 obtain ⟨ma, mc, rfl, hmc, hmm, _, _⟩ := h
 unfold maxLen at hmm
 obtain ⟨vb0, hvb⟩ : ∃ b, b = Sg.verB (bl k0) (bl r ++ bl s) m := ⟨_, rfl⟩
 rw [← hvb] at hn1 hn2 hn3 hv1
 have Hn1 := hide hn1
 have Hn2 := hide hn2
 have Hn3 := hide hn3
 have Hv1 := hide hv1
 clear hn1 hn2 hn3 hv1 k3 k6 edA sA oA zA cA edR sR oR zR cR hcl hcl2 hk hr hs hbS f2
 rw [← hvb]
 clear hvb
 obtain ⟨HsKk, HoKk, HzKk⟩ := b3 (zBInfo k0) (zBOne k0) (zBSize 0 k0)
 obtain ⟨HsGg, HoGg, HzGg⟩ := b3 (hInfo r s) (gOne r s) (gSize 0 0 r s)
 obtain ⟨HsRr, HoRr, HzRr⟩ := b3 (zBInfo r) (zBOne r) (zBSize 0 r)
 obtain ⟨HsSs, HoSs, HzSs⟩ := b3 (zBInfo s) (zBOne s) (zBSize 0 s)
 obtain ⟨HsNn, HoNn, HzNn⟩ := b3 (eInfo4 s) (eOne s) (eSize 0 s)
 obtain ⟨HsCc, HoCc, HzCc⟩ := b3 (eInfo4 (Sg.chalN (bl r ++ bl k0 ++ m))) (eOne (Sg.chalN (bl r ++ bl k0 ++ m))) (eSize 0 (Sg.chalN (bl r ++ bl k0 ++ m)))
 obtain ⟨HsDd, HoDd, HzDd⟩ := nF Ed.dN
 generalize zB k0 = Kk at *
 generalize gC r s = Gg at *
 generalize zB r = Rr at *
 generalize zB s = Ss at *
 generalize q4 s = Nn at *
 generalize q4 (Sg.chalN (bl r ++ bl k0 ++ m)) = Cc at *
 generalize n17 Ed.dN = Dd at *
 generalize zB 0 = ZB at *
 generalize gC 0 0 = ZH at *
 generalize q4 0 = Z4 at *
 generalize n17 0 = Zn at *
 generalize mC 0 0 0 = Zm at *
 generalize tpC (Ed.Tp.times (tOf Ed.Pt.base) s 256) = TX at *
 generalize tpC (tOf Ed.Pt.base) = TB at *
 generalize Sg.chalN (bl r ++ bl k0 ++ m) = cN at *
 go_enter Tryz.func30, Tryz.ntmps30
 refine wp_seq_h fun K1 hK1 => ?_
 go_wp2
 refine hK1.out _ _ ?_
 clear hK1 K1
 generalize (w.alloc (.cells Kk 22)).alloc (.cells Gg 25) = w1 at *
 refine wp_seq_h fun K2 hK2 => ?_
 have h1 := H1.out.alloc (.cells ZB 22)
 have h2 := h1.alloc (.cells ZB 22)
 simp only [World.size_alloc] at h2
 have H2 := hide h2
 have S2 := hide ((S1.out.alloc (.cells ZB 22)).alloc (.cells ZB 22))
 clear h1 h2 H1 S1
 go_wp2
 refine hK2.out _ _ ?_
 clear hK2 K2
 generalize (w1.alloc (.cells ZB 22)).alloc (.cells ZB 22) = w2 at *
 generalize w1.heap.size = p7 at *
 go_wp2_with fail
 go_loopw [9] (fun i wr => ∃ k : Nat, k ≤ 32 ∧ i = .int .i64 k ∧ (blk (p7 + 1) (.cells (zb (hL (bl s) k)) 22 (0, 0)) * (blk p7 (.cells (zb (hL (bl r) k)) 22 (0, 0)) * (blk (w.heap.size + 1) (.cells Gg 25 (0, 0)) * (blk (w.heap.size) (.cells Kk 22 (0, 0)) * all w)))).on wr ∧ Str w wr) (fun i _ => 32 - (intOf i).toNat)
 case atStart => exact ⟨0, by omega, rfl, by rw [HbR.out, HbS.out]; exact H2.out, S2.out⟩
 obtain ⟨k, hk, rfl, hX, hS2⟩ := hrel
 have HXk := hide hX
 have HSk := hide hS2
 clear hX hS2 H2 S2
 by_cases hlt : k < 32
 ·obtain ⟨x, hx⟩ : ∃ x, (bl r)[k]? = some x := ⟨_, HgR.out k hlt⟩
  obtain ⟨y, hy⟩ : ∃ y, (bl s)[k]? = some y := ⟨_, HgS.out k hlt⟩
  obtain ⟨ox, hox⟩ := hL_get r k k (by omega) hlt
  obtain ⟨oy, hoy⟩ := hL_get s k k (by omega) hlt
  have hcx := (cell_of_row wr (w.heap.size + 1) k _ _ _ (on_blk_mul (SP.on.right (SP.on.right HXk.out)))).trans (HcG1.out k x hx)
  have h0 := HXk.out
  rw [SP.mul_left_comm] at h0
  have hc1 := zbCell h0 k ox hox
  have hfr1 := frozen_of_row wr p7 k _ _ (on_blk_mul h0)
  have h1 := zbSet h0 k x
  rw [hL_step (bl r) k x hx hlt, SP.mul_left_comm] at h1
  have hcy := (cell_of_row _ (w.heap.size + 1) (32 + k) _ _ _ (on_blk_mul (SP.on.right (SP.on.right h1)))).trans (HcG2.out k y hy)
  have hc2 := zbCell h1 k oy hoy
  have hfr2 := frozen_of_row _ (p7 + 1) k _ _ (on_blk_mul h1)
  have h2 := zbSet h1 k y
  rw [hL_step (bl s) k y hy hlt] at h2
  have HN := hide h2
  have hk32 : (k : Int) < 32 := by omega
  have hk64 : (k : Int) < 64 := by omega
  have s1 : IntKind.i64.wrap (32 + (k : Int)) = ((32 + k : Nat) : Int) := by rw [IntWalk.i64_in _ (by omega)]; omega
  have hj64 : ((32 + k : Nat) : Int) < 64 := by omega
  obtain ⟨q, hq⟩ : ∃ q, q = 32 + k := ⟨_, rfl⟩
  rw [← hq] at s1 hj64 hcy
  have s2 : (32 + (k : Int)) = (q : Int) := by omega
  clear h0 h1 h2 hx hy hox hoy hq
  go_wp2
  exact ⟨⟨k + 1, by omega, by simp, HN.out, (HSk.out.setCell _ _).setCell _ _⟩, by simp [intOf]; omega⟩
 obtain rfl : k = 32 := by omega
 rw [HeR.out, HeS.out] at HXk
 clear HbR HbS HeR HeS hk hlt
 have H3 := hide HXk.out
 have S3 := hide HSk.out
 clear HXk HSk
 generalize wr = w3 at *
 have gA := on_blk_mul H3.out.right.right.right
 go_wp2_with (first
  | (refine wL gA hub HsKk ?_))
 clear gA
 refine (hk1.out _).mono ?_
 rintro e w4 ⟨rfl, hB⟩
 obtain ⟨H4, S4⟩ := nx H3.out S3.out hB
 clear hB H3 S3
 obtain ⟨gN, gM, H5, S5⟩ := newV H4.out S4.out Zm PA 58
 have gL0 := on_blk_mul H5.out.right.right
 go_wp2_with (first
  | (refine wS gN HsPA HzPA HoPA ?_)
  | (refine wL gL0 hub HsRr ?_))
 clear gL0
 generalize (w4.alloc (.cells Zm 58)).setRow w4.heap.size PA = w5 at *
 clear gN gM H4 S4
 generalize w4.heap.size = p10 at *
 refine (hk2.out _).mono ?_
 rintro e w6 ⟨rfl, hB⟩
 obtain ⟨H6, S6⟩ := nx H5.out S5.out hB
 clear hB H5 S5
 obtain ⟨gN, gM, H7, S7⟩ := newV H6.out S6.out Zm PR 58
 have sz : ((w6.alloc (.cells Zm 58)).setRow w6.heap.size PR).heap.size = w6.heap.size + 1 := by simp [World.setRow]
 have h9 := H7.out.alloc (.cells Z4 51)
 rw [sz] at h9
 have H8 := hide h9
 have S8 := hide (S7.out.alloc (.cells Z4 51))
 clear h9 sz
 go_wp2_with (first
  | (refine wS gN HsPR HzPR HoPR ?_))
 generalize ((w6.alloc (.cells Zm 58)).setRow w6.heap.size PR).alloc (.cells Z4 51) = w8 at *
 generalize w6.heap.size = p12 at *
 clear gN gM H6 S6 H7 S7
 go_loopw [15] (fun i wr => ∃ k : Nat, k ≤ 32 ∧ i = .int .i64 ((k : Int) - 1) ∧ (blk (p12 + 1) (.cells (lvs (lw (s) k)) 51 (0, 0)) * (blk (p12) (.cells PR 58 (0, 0)) * (blk (p10) (.cells PA 58 (0, 0)) * (blk (p7 + 1) (.cells Ss 22 (0, 0)) * (blk (p7) (.cells Rr 22 (0, 0)) * (blk (w.heap.size + 1) (.cells Gg 25 (0, 0)) * (blk (w.heap.size) (.cells Kk 22 (0, 0)) * all w))))))).on wr ∧ Str w wr) (fun i _ => (intOf i + 1).toNat)
 case atStart => exact ⟨32, by omega, rfl, by rw [H32.out]; exact H8.out, S8.out⟩
 obtain ⟨k, hk, rfl, hX, hS2⟩ := hrel
 have HXk := hide hX
 have HSk := hide hS2
 clear hX hS2 H8 S8
 cases k with
 | zero =>
  rw [Hl0.out] at HXk
  have H20 := hide HXk.out
  have S20 := hide HSk.out
  clear HXk HSk
  generalize wr = w20 at *
  have g0 := on_blk_mul H20.out
  go_wp2_with (first
   | (refine wL g0 hu4 HsNn ?_))
  clear g0
  refine (hk3.out _).mono ?_
  rintro e w21 ⟨rfl, hB⟩
  obtain ⟨H21, S21⟩ := nx H20.out S20.out hB
  clear hB H20 S20
  have HB := hide (all_below H21.out.right.right.right.right.right.right.right S21.out)
  rcases HcA.out with ⟨rfl, pA, hdA, hPA⟩ | ⟨rfl, hdA⟩
  ·have HdA := hide hdA
   have HPA := hide hPA
   clear hdA hPA
   rcases HcR.out with ⟨rfl, pR, hdR, hPR⟩ | ⟨rfl, hdR⟩
   ·have HdR := hide hdR
    have HPR := hide hPR
    clear hdR hPR
    rcases HcS.out with ⟨rfl, hsO⟩ | ⟨rfl, hsO⟩
    ·have hver := Hv1.out pA pR HdA.out HdR.out hsO
     have q8 := fun X => hk8.out pA X
     rw [← HPA.out] at q8
     have q9 := fun X => hk9.out pA pR X
     rw [← HPR.out] at q9
     have hq8 := hide q8
     have hq9 := hide q9
     have hq10 := hide (fun X => hk10.out pA pR X)
     generalize hbb : decide (Ed.Pt.base.mul s = pR.sum (pA.mul cN)) = bb at *
     have Hver := hide hver
     generalize tpC ((tOf pR).add (Ed.Tp.times (tOf pA) cN 256)) = TZ at *
     generalize tpC (Ed.Tp.times (tOf pA) cN 256) = TY at *
     clear hver q8 q9 hsO hbb HB hk8 hk9 hk10
     go_wp2_with fail
     refine (hk4.out _).mono ?_
     rintro e w22 ⟨rfl, hB⟩
     obtain ⟨H22, S22⟩ := nx H21.out S21.out hB
     clear hB H21 S21
     obtain ⟨gN, gM, H23, S23⟩ := newV H22.out S22.out Zn Dd 56
     go_wp2_with (first
      | (refine wS gN HsDd HzDd HoDd ?_))
     generalize (w22.alloc (.cells Zn 56)).setRow w22.heap.size Dd = w23 at *
     clear gN gM H22 S22
     generalize w22.heap.size = p17 at *
     refine wp_tail 6 [isV (.slice (some ⟨p7, 0, .none⟩) 32 32), isV (.slice (some ⟨w.heap.size, 0, .none⟩) 32 32), isV (.slice ma m.length mc), fun v X => IsRows X v [bl r, bl k0, m], isV (.agg Cc), Fresh w23.heap.size (.cells Z4 51 (0, 0))] ?t115 ?r132 (hk := ?keep)
     case keep => exact ⟨Keep.isV _, Keep.isV _, Keep.isV _, fun _ _ _ h k => IsRows.below h k, Keep.isV _, Fresh.keep, trivial⟩
     case' t115 => refine ⟨?_, ?_, ?_, ?_, ?_, ?_, trivial⟩ <;> intro ev X hT hb hk hf
     ·exact OpOk.r (by simp [execOp, fV ev 7 (.pointer (some ⟨p7, 0, .none⟩)) hk.1, hub, go_sem])
     ·exact OpOk.r (by simp [execOp, fV ev 3 (.pointer (some ⟨w.heap.size, 0, .none⟩)) hk.1, hub, go_sem])
     ·exact OpOk.m rfl hk.1
     ·exact OpOk.run (v := .slice (some ⟨X.heap.size, 0, .none⟩) 3 3) (W' := X.alloc (.cells #[.slice (some ⟨p7, 0, .none⟩) 32 32, .slice (some ⟨w.heap.size, 0, .none⟩) 32 32, .slice ma m.length mc] 35)) (by simp [execOp, fX ev 74 hf.1, fX ev 75 hf.2.1, fX ev 76 hf.2.2.1, run_rr3]) ⟨rows_three (HlR.out X p7 _ _ ((H23.out.below hT).right.right.right.right.right)) (HlK.out X w.heap.size _ _ ((H23.out.below hT).right.right.right.right.right.right.right)) (HM.out.below (all_below (H23.out.below hT).right.right.right.right.right.right.right.right (S23.out.trans (Str.below hT)))) 35, (Below.refl X.heap.size X).alloc (Nat.le_refl _) _⟩
     ·have e0 : IsRows X (ev (.tmp 77)) [bl r, bl k0, m] := hf.1
      have e0 : IsRows X (ev (.tmp 77)) [bl r, bl k0, m] := hf.1
      exact OpOk.c0 hb (hk6.out _ X e0)
     ·exact OpOk.al hT.size (by simp [execOp, hzL, go_sem])
     intro w24 hX
     rintro _ rfl _ rfl _ rfl _ - _ rfl _ ⟨g18, rfl, hgg18, hcg18⟩
     have H24 := hide (on_fresh H23.out hX hgg18 hcg18)
     have S24 := hide (S23.out.trans (Str.below hX))
     clear hX H23 S23 hgg18 hcg18
     go_wp2
     refine Rest.done ?_
     have H25 := hide (st0 H24.out (cs := Cc))
     have S25 := hide (S24.out.setRow (g18) Cc)
     have gW := on_blk_mul H24.out
     go_wp2_with (first
      | (refine wS gW HsCc HzCc HoCc ?_))
     generalize w24.setRow (g18) Cc = w25 at *
     clear gW H24 S24
     refine wp_tail 12 (iv [.agg TB, .agg Nn, .agg Dd, .agg TX, .agg PR, .agg PA, .agg Cc, .agg Dd, .agg TY, .agg Dd, .agg TZ, .bool bb]) ?t116 ?r133
     case' t116 => refine ⟨?_, ?_, ?_, ?_, ?_, ?_, ?_, ?_, ?_, ?_, ?_, ?_, trivial⟩ <;> intro ev X hT hb hk hf
     ·exact OpOk.c0 hb (hk5.out X)
     ·exact OpOk.l (x := .tmp 14) hk.1 (on_blk_mul (H25.out.below hT).right.right) hu4 HsNn.out
     ·exact OpOk.l (x := .tmp 17) hk.1 (on_blk_mul (H25.out.below hT).right) hun HsDd.out
     ·exact OpOk.c3 (fX ev 79 hf.1) (fX ev 80 hf.2.1) (fX ev 81 hf.2.2.1) hb (hk7.out X)
     ·exact OpOk.l (x := .tmp 12) hk.1 (on_blk_mul (H25.out.below hT).right.right.right) hum HsPR.out
     ·exact OpOk.l (x := .tmp 10) hk.1 (on_blk_mul (H25.out.below hT).right.right.right.right) hum HsPA.out
     ·exact OpOk.l (x := .tmp 18) hk.1 (on_blk_mul (H25.out.below hT)) hu4 HsCc.out
     ·exact OpOk.l (x := .tmp 17) hk.1 (on_blk_mul (H25.out.below hT).right) hun HsDd.out
     ·exact OpOk.c3 (fX ev 84 hf.1) (fX ev 85 hf.2.1) (fX ev 86 hf.2.2.1) hb (hq8.out X)
     ·exact OpOk.l (x := .tmp 17) hk.1 (on_blk_mul (H25.out.below hT).right) hun HsDd.out
     ·exact OpOk.c3 (fX ev 83 hf.1) (fX ev 87 hf.2.1) (fX ev 88 hf.2.2.1) hb (hq9.out X)
     ·exact OpOk.c2 (fX ev 82 hf.1) (fX ev 89 hf.2.1) hb (hq10.out X)
     intro w26 hX
     iterate 12 rintro _ rfl
     obtain ⟨H26, S26⟩ := nx H25.out S25.out hX
     clear hX H25 S25
     go_wp2
     refine Rest.done ?_
     have HB := hide (all_below H26.out.right.right.right.right.right.right.right.right.right S26.out)
     go_wp2
     go_ret
     exact ⟨by rw [Hver.out]; rfl, HB.out⟩
    have hver := Hn3.out hsO
    clear hsO
    have Hver := hide hver
    clear hver
    go_wp2
    go_ret
    exact ⟨by rw [Hver.out]; rfl, HB.out⟩
   have hver := Hn2.out hdR
   clear hdR
   have Hver := hide hver
   clear hver
   go_wp2
   go_ret
   exact ⟨by rw [Hver.out]; rfl, HB.out⟩
  have hver := Hn1.out hdA
  clear hdA
  have Hver := hide hver
  clear hver
  go_wp2
  go_ret
  exact ⟨by rw [Hver.out]; rfl, HB.out⟩
 | succ k =>
  have hk32 : k < 32 := by omega
  have s1 : (((k + 1 : Nat) : Int) - 1) = (k : Int) := by omega
  rw [s1]
  clear s1
  have hval := lw_val (s) k hk32
  have hb256 : (s) / 256 ^ k % 256 < 256 := Nat.mod_lt _ (by decide)
  have hll := limb_lt (s) (k / 8)
  have hle : limb (s) (k / 8) / 256 ^ (k % 8) ≤ limb (s) (k / 8) := Nat.div_le_self _ _
  have hstep := lw_step (s) k hk32
  have hget := lvs_get _ _ _ (lw_get (s) (k + 1) (k / 8) (by omega))
  have hgb := Hget.out k hk32
  have hxn : (UInt8.ofNat ((s) / 256 ^ k % 256)).toNat = (s) / 256 ^ k % 256 := by rw [UInt8.toNat_ofNat']; omega
  rw [← hxn] at hval
  have hset := lvs_set (lw (s) (k + 1)) (k / 8) (limb (s) (k / 8) / 256 ^ (k % 8))
  rw [hstep] at hset
  have Hps := hide (show k / 8 < (lvs (lw (s) (k + 1))).size by rw [lvs_size, lw_len]; omega)
  have hq4 : ((k / 8 : Nat) : Int) < 4 := by omega
  have hk32' : (k : Int) < 32 := by omega
  have c1 : IntKind.i64.wrap ((k : Int) / 8) = ((k / 8 : Nat) : Int) := by rw [IntWalk.i64_in _ (by omega)]; omega
  generalize UInt8.ofNat ((s) / 256 ^ k % 256) = x at *
  have hx8 := UInt8.toNat_lt x
  generalize limb (s) (k / 8) / 256 ^ (k % 8) = z at *
  generalize limb (s) (k / 8) / 256 ^ (k + 1 - 8 * (k / 8)) = y at *
  have c5 : IntKind.u64.wrap ((x.toNat : Nat) : Int) = ((x.toNat : Nat) : Int) := wrapS _ (by omega)
  have q6 : IntKind.u64.wrap ((y : Int) * 256) = ((y * 256 : Nat) : Int) := by rw [IntKind.wrap_u64]; omega
  have q7 : IntKind.u64.wrap (((y * 256 : Nat) : Int) + ((x.toNat : Nat) : Int)) = (z : Int) := by rw [IntKind.wrap_u64]; omega
  generalize y * 256 = y2 at *
  have Q6 := hide q6
  have Q7 := hide q7
  have Hcl := hide hget
  have Hgb := hide hgb
  have Hset := hide hset
  have hs8 : (Tryz.prog.info? 50).map (·.size) = some 1 := by kernel_rfl
  clear hset hget q6 q7 hval hb256 hll hle hstep hgb hxn
  generalize lvs (lw (s) (k + 1)) = P1 at *
  generalize hP2 : lvs (lw (s) k) = P2 at *
  have HP2 := hide hP2
  clear hP2
  generalize k / 8 = q at *
  go_wp2_with fail
  refine AppK.wp_region_set 13 [isV (.int .i64 (k : Int)), isV (.int .i64 ((q : Nat) : Int)), isV (.int .i64 (k : Int)), isV (.int .i64 ((q : Nat) : Int)), isV (.pointer (some ⟨p12 + 1, q, .none⟩)), isV (lv y), isV (lv y2), isV (.int .i64 (k : Int)), isV (.pointer (some ⟨p7 + 1, k, .none⟩)), isV (vb x), isV (lv x.toNat), isV (lv z), isV (.pointer (some ⟨p12 + 1, q, .none⟩)), (fun _ _ => True)]
   [isV (.int .i64 (k : Int)), isV (.int .i64 ((q : Nat) : Int)), isV (.int .i64 (k : Int)), isV (.int .i64 ((q : Nat) : Int)), isV (.pointer (some ⟨p12 + 1, q, .none⟩)), isV (lv y), isV (lv y2), isV (.int .i64 (k : Int)), isV (.pointer (some ⟨p7 + 1, k, .none⟩)), isV (vb x), isV (lv x.toNat), isV (lv z), isV (.pointer (some ⟨p12 + 1, q, .none⟩)), (fun _ _ => True)] _ rfl (by kernel_rfl) (by kernel_rfl) rfl (by decide) (.inr rfl) (fun ph X => (blk (p12 + 1) (.cells (if ph = true then P2 else P1) 51 (0, 0)) * (blk (p12) (.cells PR 58 (0, 0)) * (blk (p10) (.cells PA 58 (0, 0)) * (blk (p7 + 1) (.cells Ss 22 (0, 0)) * (blk (p7) (.cells Rr 22 (0, 0)) * (blk (w.heap.size + 1) (.cells Gg 25 (0, 0)) * (blk (w.heap.size) (.cells Kk 22 (0, 0)) * all w))))))).on X ∧ Str w X) ⟨SP.on.drew HXk.out, Str.drew HSk.out⟩ (fun ph a b h st => ⟨h.1.below st, h.2.trans (Str.below st)⟩) kP kP ?store ?todo ?r134
  case store =>
   intro ev X hT hb hk hf
   have hX : (blk (p12 + 1) (.cells P1 51 (0, 0)) * (blk (p12) (.cells PR 58 (0, 0)) * (blk (p10) (.cells PA 58 (0, 0)) * (blk (p7 + 1) (.cells Ss 22 (0, 0)) * (blk (p7) (.cells Rr 22 (0, 0)) * (blk (w.heap.size + 1) (.cells Gg 25 (0, 0)) * (blk (w.heap.size) (.cells Kk 22 (0, 0)) * all w))))))).on X := hT.1
   exact OpOk.store_one _ _ _ rfl (p12 + 1) q (lv z) (fX ev 60 hf.1) (fX ev 59 hf.2.1) rfl _ P1 hX hs8 Hps.out rfl P2 Hset.out (fun h3 => ⟨⟨h3, hT.2.setRow _ _⟩, trivial, fun i _ hv => vList_free fR i _ _ _ hv⟩)
  case todo =>
   refine ⟨?_, ?_, ?_, ?_, ?_, ?_, ?_, ?_, ?_, ?_, ?_, ?_, ?_, ?_, trivial⟩
   ·refine pK fun ev X hT hb hk hf => ?_
    exact OpOk.m rfl (fV ev 15 (.int .i64 (k : Int)) hk.1)
   ·refine pK fun ev X hT hb hk hf => ?_
    exact OpOk.r (by simp [execOp, fX ev 48 hf.1, hb.1, c1, go_sem])
   ·refine pK fun ev X hT hb hk hf => ?_
    exact OpOk.m rfl (fV ev 15 (.int .i64 (k : Int)) hk.1)
   ·refine pK fun ev X hT hb hk hf => ?_
    exact OpOk.r (by simp [execOp, fX ev 50 hf.1, hb.1, c1, go_sem])
   ·refine pK fun ev X hT hb hk hf => ?_
    exact OpOk.r (by simp [execOp, fV ev 14 (.pointer (some ⟨p12 + 1, 0, .none⟩)) hk.1, fX ev 51 hf.1, hb.1, hq4, go_sem]; try (intro h; omega))
   ·refine pK fun ev X hT hb hk hf => ?_
    have cW := (cell_of_row X (p12 + 1) q _ _ _ (on_blk_mul hT.1)).trans Hcl.out
    exact OpOk.sc (fX ev 52 hf.1) cW
   ·refine pK fun ev X hT hb hk hf => ?_
    exact OpOk.r (by have h9 := Q6.out; simp [execOp, fX ev 53 hf.1, hb.1, h9, go_sem])
   ·refine pK fun ev X hT hb hk hf => ?_
    exact OpOk.m rfl (fV ev 15 (.int .i64 (k : Int)) hk.1)
   ·refine pK fun ev X hT hb hk hf => ?_
    exact OpOk.r (by simp [execOp, fV ev 8 (.pointer (some ⟨p7 + 1, 0, .none⟩)) hk.1, fX ev 55 hf.1, hb.1, hk32', go_sem]; try (intro h; omega))
   ·refine pK fun ev X hT hb hk hf => ?_
    have cW := (cell_of_row X (p7 + 1) k _ _ _ (on_blk_mul (SP.on.right (SP.on.right (SP.on.right hT.1))))).trans Hgb.out
    exact OpOk.sc (fX ev 56 hf.1) cW
   ·refine pK fun ev X hT hb hk hf => ?_
    exact OpOk.r (by simp [execOp, fX ev 57 hf.1, hb.1, hu6, hu8, c5, go_sem])
   ·refine pK fun ev X hT hb hk hf => ?_
    exact OpOk.r (by have h9 := Q7.out; simp [execOp, fX ev 54 hf.1, fX ev 58 hf.2.1, h9, go_sem])
   ·refine pK fun ev X hT hb hk hf => ?_
    exact OpOk.r (by simp [execOp, fV ev 14 (.pointer (some ⟨p12 + 1, 0, .none⟩)) hk.1, fX ev 49 hf.1, hb.1, hq4, go_sem]; try (intro h; omega))
   exact fun h => absurd rfl h
  intro X hT
  rintro _ - _ - _ - _ - _ - _ - _ - _ - _ - _ - _ - _ - _ - _ -
  have hX2 : (blk (p12 + 1) (.cells P2 51 (0, 0)) * (blk (p12) (.cells PR 58 (0, 0)) * (blk (p10) (.cells PA 58 (0, 0)) * (blk (p7 + 1) (.cells Ss 22 (0, 0)) * (blk (p7) (.cells Rr 22 (0, 0)) * (blk (w.heap.size + 1) (.cells Gg 25 (0, 0)) * (blk (w.heap.size) (.cells Kk 22 (0, 0)) * all w))))))).on X := hT.1
  have HX2 := hide hX2
  have HST := hide hT.2
  clear hT hX2
  go_wp2
  refine Rest.done ?_
  go_wp2_with fail
  refine ⟨⟨k, by omega, rfl, by rw [HP2.out]; exact HX2.out, HST.out⟩, by simp [intOf]⟩
structure TabS (w : World) : Prop where
 h : Sha64.Tab w
 c : TabC w
 d : TabD w
 o : TabO w
theorem TabS.below {w X : World} (t : TabS w) (hb : Below w.heap.size w X) : TabS X := ⟨t.h.below hb, t.c.below hb, t.d.below hb, t.o.below hb⟩
theorem tab_order8 {W : World} (hL : laidMet Tryz.prog [("bosun/scalar.order", Rows.laid_bosun_scalar_order)] W) : TabO W := by
 have e1 : (Rows.laid_bosun_scalar_order : DataW Unit) = Lib.tabData .u64 ((qs 4 O6).map fun x : Nat => (x : Int)) := by
  rw [show qs 4 O6 = [6346243789798364141, 1503914060200516822, 0, 1152921504606846976] by decide +kernel]; kernel_rfl
 rw [e1] at hL
 have t1 := Lib.tabIs_of_head (g := 4) (t := 131) (e := 50) (n := 4) (by kernel_rfl) (by kernel_rfl) Tryz.underlying131 Tryz.underlying50 (by kernel_rfl) (by kernel_rfl) hL
 intro i hi
 have := t1.cell (g := 4) (by kernel_rfl) i (by rw [List.length_map, qs_len]; exact hi)
 rw [this, List.getD_eq_getElem?_getD, List.getElem?_map, qs_get 4 _ i hi]
 rfl
theorem tab_sign {W : World} (hL : laidMetH Tryz.prog [("bosun/field.modulus", Rows.laid_bosun_field_modulus), ("bosun/field.lessTwo", Rows.laid_bosun_field_lessTwo), ("bosun/field.eighth", Rows.laid_bosun_field_eighth), ("bosun/field.rootOfMinusOne", Rows.laid_bosun_field_rootOfMinusOne), ("bosun/longsum.first", Rows.laid_bosun_longsum_first), ("bosun/longsum.rounds", Rows.laid_bosun_longsum_rounds), ("bosun/scalar.order", Rows.laid_bosun_scalar_order), ("bosun/curve.d", Rows.laid_bosun_curve_d), ("bosun/curve.dTwice", Rows.laid_bosun_curve_dTwice), ("bosun/curve.baseX", Rows.laid_bosun_curve_baseX), ("bosun/curve.baseY", Rows.laid_bosun_curve_baseY)] W) : TabS W := by
 rw [MakeChecks.laidMetH_plain _ _ _ (by kernel_rfl)] at hL
 refine ⟨Sha64.tab_of_laid ?_, ⟨⟨tb_m (laidMet.filter (fun x => x.1 == "bosun/field.modulus") hL)⟩, tb_l (laidMet.filter (fun x => x.1 == "bosun/field.lessTwo") hL), tc_x (laidMet.filter (fun x => x.1 == "bosun/curve.baseX") hL), tc_y (laidMet.filter (fun x => x.1 == "bosun/curve.baseY") hL), tc_dd (laidMet.filter (fun x => x.1 == "bosun/curve.dTwice") hL)⟩, ⟨⟨tb_e (laidMet.filter (fun x => x.1 == "bosun/field.eighth") hL), tb_r (laidMet.filter (fun x => x.1 == "bosun/field.rootOfMinusOne") hL)⟩, tc_d (laidMet.filter (fun x => x.1 == "bosun/curve.d") hL)⟩, tab_order8 (laidMet.filter (fun x => x.1 == "bosun/scalar.order") hL)⟩
 rw [MakeChecks.laidMetH_plain _ _ _ (by kernel_rfl)]
 exact laidMet.filter (fun x => x.1 == "bosun/longsum.first" || x.1 == "bosun/longsum.rounds") hL
section
variable {H : Type} {enc : TypeId × Value → H} {w : World} {base : Nat} {spare : Nat → Bool} {held : Bool}
end
theorem zb_of (l : List UInt8) (h : l.length = 32) : zb l = zB (leN l) := by unfold zB; rw [bl_leN l h]
theorem gC_of (l : List UInt8) (h : l.length = 64) : zb l = gC (leN (l.take 32)) (leN (l.drop 32)) := by
 unfold gC
 rw [bl_leN _ (by rw [List.length_take, h]; rfl), bl_leN _ (by rw [List.length_drop, h]), List.take_append_drop]
theorem halves (l : List UInt8) (h : l.length = 64) : bl (leN (l.take 32)) ++ bl (leN (l.drop 32)) = l := by
 rw [bl_leN _ (by rw [List.length_take, h]; rfl), bl_leN _ (by rw [List.length_drop, h]), List.take_append_drop]
theorem half_lt (l : List UInt8) (h : l.length = 64) : leN (l.take 32) < 256 ^ 32 ∧ leN (l.drop 32) < 256 ^ 32 := by
 have h1 := leN_lt (l.take 32)
 have h2 := leN_lt (l.drop 32)
 rw [List.length_take, h] at h1
 rw [List.length_drop, h] at h2
 exact ⟨h1, h2⟩
theorem leN_lt8 (l : List UInt8) (hl : l.length = 32) : leN l < 256 ^ 32 := by
 have := leN_lt l
 rwa [hl] at this
theorem sver_l (key sig : List UInt8) (hk : key.length = 32) (hs : sig.length = 64) (v : Value) (ls : List (List UInt8)) (w : World) (h : IsRows w v ls) (hz : ∀ n c, v = .slice Option.none n c → c = 0) (hT : TabS w) (hls : ls.length ≤ 1000) (hlen : ls.flatten.length ≤ 1000000) :
  Calls Tryz.prog 53 #[.agg (zb key), .agg (zb sig), v] w fun e w' => e = .returned (.int .i64 (verE (Sg.verB key sig ls.flatten))) ∧ Below w.heap.size w w' := by
 have h1 := sverify_any (leN key) (leN (sig.take 32)) (leN (sig.drop 32)) (leN_lt8 key hk) (half_lt sig hs).1 (half_lt sig hs).2 v ls w h hz hT.h hT.c hT.d hT.o hls hlen
 rw [halves sig hs, bl_leN key hk, ← zb_of key hk, ← gC_of sig hs] at h1
 exact h1
theorem rver_l (key sig : List UInt8) (hk : key.length = 32) (hs : sig.length = 64) (v : Value) (m : List UInt8) (w : World) (h : IsBytes w v m) (hm : m.length ≤ 10000) :
  Calls Tryz.prog 30 #[.agg (zb key), v, .agg (zb sig)] w fun e w' => e = .returned (.bool (Sg.verB key sig m)) ∧ Below w.heap.size w w' := by
 have h1 := mverify_any (leN key) (leN (sig.take 32)) (leN (sig.drop 32)) (leN_lt8 key hk) (half_lt sig hs).1 (half_lt sig hs).2 v m w h hm
 rw [halves sig hs, bl_leN key hk, ← zb_of key hk, ← gC_of sig hs] at h1
 exact h1
end Cv
end Go.Proofs.YtjdebgbiockafaaGreatDoor
