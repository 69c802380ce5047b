/- sign: the document's secret number, and the public key. -/
import Derived.Test.YtbplbdnofobbiaaDoorSg4
import Derived.Test.YtbplbdnofobbiaaDoorCv10
import Derived.Test.YtbplbdnofobbiaaDoorSlice
import Derived.Test.YtbplbdnofobbiaaDoorGSl
import Derived.Laws.BitsAllLaws
set_option linter.unusedVariables false
set_option linter.unusedSimpArgs false
set_option maxRecDepth 100000
set_option maxHeartbeats 8000000
namespace Go.Proofs.YtbplbdnofobbiaaDoor
namespace Cv
open Fe
open Go.ChangeShapes Go.WideShapes Go.ChangeAt Go.RowKit
theorem and248 : ∀ x : UInt8, bits .andNot .u8 ((x.toNat : Nat) : Int) 7 = (((x &&& 248).toNat : Nat) : Int) := by
 intro x
 have h := UInt8.toNat_lt x
 rw [show (7 : Int) = ((7 : Nat) : Int) from rfl, u8_andNot_nat _ _ h (by decide)]
 rw [UInt8.toNat_and]; rfl
theorem and63 : ∀ x : UInt8, bits .and .u8 ((x.toNat : Nat) : Int) 63 = (((x &&& 63).toNat : Nat) : Int) := by
 intro x
 have h := UInt8.toNat_lt x
 rw [show (63 : Int) = ((63 : Nat) : Int) from rfl, u8_and_nat _ _ h (by decide)]
 rw [UInt8.toNat_and]; rfl
theorem and63_lt (x : UInt8) : (x &&& 63).toNat ≤ 63 := by
 rw [UInt8.toNat_and]
 exact Nat.and_le_right
theorem add64 (x : UInt8) : IntKind.u8.wrap ((((x &&& 63).toNat : Nat) : Int) + 64) = ((((x &&& 63) + 64).toNat : Nat) : Int) := by
 have h := and63_lt x
 rw [UInt8.toNat_add]
 have e : (64 : UInt8).toNat = 64 := rfl
 rw [e, Nat.mod_eq_of_lt (by omega), IntKind.wrap_u8]
 omega
theorem clamp_get (h : List UInt8) (hl : h.length = 64) (k : Nat) (hk : k < 32) : (vbs (Sg.clampL h))[k]? = some (vb (UInt8.ofNat (leN ((Sg.clampL h).take 32) / 256 ^ k % 256))) := by
 have e1 : ((Sg.clampL h).take 32).length = 32 := by rw [List.length_take, Sg.clampL_len, hl]; rfl
 have h1 := bl_get (leN ((Sg.clampL h).take 32)) k hk
 rw [bl_leN _ e1, List.getElem?_take, if_pos hk] at h1
 simp only [vbs, List.getElem?_map, h1, Option.map_some]
theorem clamp_drop (h : List UInt8) : (Sg.clampL h).drop 32 = h.drop 32 := by
 unfold Sg.clampL
 rw [List.drop_set_of_lt (by decide), List.drop_set_of_lt (by decide)]
theorem getD_some (h : List UInt8) (k : Nat) (hk : k < h.length) : h[k]? = some (h.getD k 0) := by
 rw [List.getD_eq_getElem?_getD, List.getElem?_eq_getElem hk]; rfl
theorem infoU8 : (Tryd.prog.info? 5).map (fun i => (i.zero, i.size, i.bytes)) = some (some (.int .u8 0), 1, 1) := by kernel_rfl
theorem zB_lay5 {F : SP} {X : World} {g n : Nat} {t : TypeId} (h : (blk g (.cells (zB n) t (0, 0)) * F).on X) : IsBytes X (.slice (some ⟨g, 0, .none⟩) 32 32) (bl n) := by
 have := zb_lay (l := bl n) (on_blk_mul h) (by rw [bl_len]; unfold maxLen; omega)
 rwa [bl_len] at this
theorem msecret_any (n : Nat) (hn : n < 256 ^ 32) (w : World) :
  Calls Tryd.prog 65 #[.agg (zB n)] w fun e w' => ∃ og oc u, e = .returned (.tuple #[.agg (q4 (Sg.secN (bl n))), u]) ∧ (own 5 1 (.slice (some ⟨og, 0, .none⟩) 64 oc) 64 (vbs (Sg.clampL (Sha64.digest (bl n)))) * all w).on w' ∧
   (∀ w9 : World, IsBytes w9 (.slice (some ⟨og, 0, .none⟩) 64 oc) (Sg.clampL (Sha64.digest (bl n))) → IsBytes w9 u (Sg.secR (bl n))) ∧ Str w w' := by
 have hub := Tryd.underlying38
 have hu4 := Tryd.underlying23
 have hzB := zBZero
 have hzL := eZero4
 have h0 := ((on_all w).alloc (.cells (zB n) 38)).alloc (.cells (q4 0) 23)
 have s0 := ((Str.refl w).alloc (.cells (zB n) 38)).alloc (.cells (q4 0) 23)
 try simp only [World.size_alloc] at h0
 have H1 := hide h0
 have S1 := hide s0
 clear h0 s0
 have hu8s := Tryd.underlying56
 have hu8 := Tryd.underlying5
 have hu6 := Tryd.underlying22
 have hdl := Sha64.digest_len (bl n)
 have hcl : (Sg.clampL (Sha64.digest (bl n))).length = 64 := by rw [Sg.clampL_len, hdl]
 have Hget := hide (fun k hk => clamp_get (Sha64.digest (bl n)) hdl k hk)
 have H32 := hide (show lvs (lw (leN ((Sg.clampL (Sha64.digest (bl n))).take 32)) 32) = q4 0 from congrArg lvs (lw_32 _))
 have Hl0 := hide (show lvs (lw (leN ((Sg.clampL (Sha64.digest (bl n))).take 32)) 0) = q4 (Sg.secN (bl n)) from congrArg lvs (lw_0 _))
 have hx0 := vbs_get (Sha64.digest (bl n)) 0 (by omega)
 have hE := fun X => Sha64.short_any X
 have hS := fun u X (hu : IsBytes X u (bl n)) => Sha64.rsum_any u (bl n) X hu (by rw [bl_len]; omega)
 have HE := hide hE
 have HlS := hide (fun X g (F : SP) t => zB_lay5 (X := X) (g := g) (F := F) (n := n) (t := t))
 have hg0 := getD_some (Sha64.digest (bl n)) 0 (by omega)
 have hg31 := getD_some ((Sha64.digest (bl n)).set 0 ((Sha64.digest (bl n)).getD 0 0 &&& 248)) 31 (by rw [List.length_set]; omega)
 have hg31b : ((Sha64.digest (bl n)).set 0 ((Sha64.digest (bl n)).getD 0 0 &&& 248)).getD 31 0 = (Sha64.digest (bl n)).getD 31 0 := by
  rw [List.getD_eq_getElem?_getD, List.getElem?_set_ne (by decide), ← List.getD_eq_getElem?_getD]
 rw [hg31b] at hg31
 have HC := hide (show Sg.clampL (Sha64.digest (bl n)) = ((Sha64.digest (bl n)).set 0 ((Sha64.digest (bl n)).getD 0 0 &&& 248)).set 31 (((Sha64.digest (bl n)).getD 31 0 &&& 63) + 64) from rfl)
 have HD := hide (clamp_drop (Sha64.digest (bl n)))
 have HR := hide (show Sg.secR (bl n) = (Sha64.digest (bl n)).drop 32 from rfl)
 rw [hdl] at hS
 have HS := hide hS
 have Hdl := hide hdl
 have Hcl := hide hcl
 clear hE hS hcl hx0 hg31b hdl hn
 generalize hdg : Sha64.digest (bl n) = dg at *
 have Hg0 := hide hg0
 have Hg31 := hide hg31
 clear hdg hg0 hg31
 have Ha0 := hide (and248 (dg.getD 0 0))
 have Ha31 := hide (and63 (dg.getD 31 0))
 have Hb31 := hide (add64 (dg.getD 31 0))
 generalize ((dg.getD 31 0 &&& 63) + 64) = y31 at *
 generalize (dg.getD 31 0 &&& 63) = z31 at *
 generalize (dg.getD 0 0 &&& 248) = y0 at *
 generalize dg.getD 0 0 = x0 at *
 generalize dg.getD 31 0 = x31 at *
 generalize hFc : Sha64.fc = fc at *
 have HFc := hide hFc
 clear hFc
 obtain ⟨HsSs, HoSs, HzSs⟩ := b3 (zBInfo n) (zBOne n) (zBSize 0 n)
 obtain ⟨HsNn, HoNn, HzNn⟩ := b3 (eInfo4 (Sg.secN (bl n))) (eOne (Sg.secN (bl n))) (eSize 0 (Sg.secN (bl n)))
 generalize hvSs : zB n = Ss at *
 have hvSs := hide hvSs
 generalize q4 (Sg.secN (bl n)) = Nn at *
 generalize zB 0 = ZB at *
 generalize q4 0 = Z4 at *
 go_enter Tryd.func65, Tryd.ntmps65
 refine wp_seq_h fun K1 hK1 => ?_
 go_wp2_with fail
 refine hK1.out _ _ ?_
 clear hK1 K1
 generalize (w.alloc (.cells Ss 38)).alloc (.cells Z4 23) = w1 at *
 go_wp2_with fail
 refine wp_tail 3 [isV (.agg fc), isV (.slice (some ⟨w.heap.size, 0, .none⟩) 32 32), fun u X => (own 5 1 u 64 (vbs dg) * (blk (w.heap.size + 1) (.cells Z4 23 (0, 0)) * (blk (w.heap.size) (.cells Ss 38 (0, 0)) * all w))).on X] ?keep ?todo ?r110
 case keep => exact ⟨Keep.isV _, Keep.isV _, fun _ _ _ h k => SP.on.below h k, trivial⟩
 case todo =>
  refine ⟨?_, ?_, ?_, trivial⟩
  ·intro ev X hT hb hk hf
   exact OpOk.c (by simp [execOp, resolve, invoke, hb.1, hb.2.1, go_sem]) (HE.out X)
  ·intro ev X hT hb hk hf
   have e0 : ev (.tmp 1) = .pointer (some ⟨w.heap.size, 0, .none⟩) := hk.1
   exact OpOk.r (by simp [execOp, e0, hub, go_sem])
  ·intro ev X hT hb hk hf
   have e0 : ev (.tmp 7) = _ := hf.1
   have e1 : ev (.tmp 8) = _ := hf.2.1
   have hs := HS.out _ X (HlS.out X (w.heap.size) _ _ ((H1.out.below hT).right))
   refine OpOk.enters (f := 84) (args := #[.agg fc, .slice (some ⟨w.heap.size, 0, .none⟩) 32 32]) (W' := X) (by simp [execOp, resolve, invoke, e0, e1, hb.1, hb.2.1, go_sem]) (hs.mono ?_)
   rintro e X2 ⟨u, rfl, ho, hs2⟩
   exact ⟨_, rfl, on_all_to ho (H1.out.below hT), Makes.below (Q := fun u => own 5 1 u 64 (vbs dg)) ho hs2⟩
 intro w2 hX
 rintro _ rfl _ rfl v9 ho
 obtain ⟨H2, S2⟩ := nx H1.out S1.out hX
 clear hX H1 S1
 go_wp2
 refine Rest.done ?_
 have hob := own_block ho (by decide)
 obtain ⟨og, oc, rfl, hoc, hom⟩ := hob
 clear H2
 have H2 := hide ho
 clear ho
 have hcz := own_cell H2.out 0 (vb x0) (by simp only [vbs, List.getElem?_map, Hg0.out, Option.map_some])
 have hfz := own_free H2.out 0
 have h1 := own_store H2.out (j := 0) (by decide) (vb y0)
 rw [show (vbs dg).set 0 (vb y0) = vbs (dg.set 0 y0) by simp [vbs, List.map_set]] at h1
 have hcz2 := own_cell h1 31 (vb x31) (by simp only [vbs, List.getElem?_map, Hg31.out, Option.map_some])
 have hfz2 := own_free h1 31
 have h2 := own_store h1 (j := 31) (by decide) (vb y31)
 rw [show (vbs (dg.set 0 y0)).set 31 (vb y31) = vbs (Sg.clampL dg) by rw [HC.out]; simp [vbs, List.map_set]] at h2
 have h3 := h2.alloc (.cells Z4 23)
 have sz : ((w2.setCell ⟨og, 0, .none⟩ (vb y0)).setCell ⟨og, 31, .none⟩ (vb y31)).heap.size = w2.heap.size := by simp
 rw [sz] at h3
 have H3 := hide h3
 have S3 := hide (((S2.out.setCell ⟨og, 0, .none⟩ (vb y0)).setCell ⟨og, 31, .none⟩ (vb y31)).alloc (.cells Z4 23))
 have ha0 := Ha0.out
 have ha31 := Ha31.out
 have hb31 := Hb31.out
 have hb32 := hb31
 rw [IntKind.wrap_u8] at hb32
 clear h1 h2 h3 sz
 go_wp2_with fail
 generalize ((w2.setCell ⟨og, 0, .none⟩ (vb y0)).setCell ⟨og, 31, .none⟩ (vb y31)).alloc (.cells Z4 23) = w3 at *
 generalize w2.heap.size = p5 at *
 clear hcz hfz hcz2 hfz2 ha0 ha31 hb31 hb32
 clear H2 S2
 go_loopw [6] (fun i wr => ∃ k : Nat, k ≤ 32 ∧ i = .int .i64 ((k : Int) - 1) ∧ (blk (p5) (.cells (lvs (lw (leN ((Sg.clampL dg).take 32)) k)) 23 (0, 0)) * (own 5 1 (.slice (some ⟨og, 0, .none⟩) 64 oc) 64 (vbs (Sg.clampL dg)) * (blk (w.heap.size + 1) (.cells Z4 23 (0, 0)) * (blk w.heap.size (.cells Ss 38 (0, 0)) * all w)))).on wr ∧ Str w wr) (fun i _ => (intOf i + 1).toNat)
 case atStart => exact ⟨32, by omega, rfl, by rw [H32.out]; exact H3.out, S3.out⟩
 case round =>
  obtain ⟨k, hk, rfl, hX, hS2⟩ := hrel
  have HXk := hide hX
  have HSk := hide hS2
  clear hX hS2 H3 S3
  cases k with
  | zero =>
   rw [Hl0.out] at HXk
   have h4 := HXk.out
   rw [show (blk p5 (.cells Nn 23 (0, 0)) * (own 5 1 (.slice (some ⟨og, 0, .none⟩) 64 oc) 64 (vbs (Sg.clampL dg)) * (blk (w.heap.size + 1) (.cells Z4 23 (0, 0)) * (blk w.heap.size (.cells Ss 38 (0, 0)) * all w)))) = (blk (w.heap.size + 1) (.cells Z4 23 (0, 0)) * (blk p5 (.cells Nn 23 (0, 0)) * (own 5 1 (.slice (some ⟨og, 0, .none⟩) 64 oc) 64 (vbs (Sg.clampL dg)) * (blk w.heap.size (.cells Ss 38 (0, 0)) * all w)))) by ac_rfl] at h4
   clear HXk
   have HXk := hide h4
   clear h4
   go_wp2_with fail
   refine AppK.wp_region_set 3 [isV (.agg Nn), isV (.slice (some ⟨og, 0, .none⟩) 64 oc), (fun u X => ∀ w9 : World, IsBytes w9 (.slice (some ⟨og, 0, .none⟩) 64 oc) (Sg.clampL dg) → IsBytes w9 u ((Sg.clampL dg).drop 32)), (fun _ _ => True), (fun u X => ∀ w9 : World, IsBytes w9 (.slice (some ⟨og, 0, .none⟩) 64 oc) (Sg.clampL dg) → IsBytes w9 u ((Sg.clampL dg).drop 32))]
    [isV (.agg Nn), isV (.slice (some ⟨og, 0, .none⟩) 64 oc), (fun u X => ∀ w9 : World, IsBytes w9 (.slice (some ⟨og, 0, .none⟩) 64 oc) (Sg.clampL dg) → IsBytes w9 u ((Sg.clampL dg).drop 32)), (fun _ _ => True), (fun u X => ∀ w9 : World, IsBytes w9 (.slice (some ⟨og, 0, .none⟩) 64 oc) (Sg.clampL dg) → IsBytes w9 u ((Sg.clampL dg).drop 32))] _ rfl (by kernel_rfl) (by kernel_rfl) rfl (by decide) (.inr rfl) (fun ph X => (blk (w.heap.size + 1) (.cells (if ph = true then Nn else Z4) 23 (0, 0)) * (blk p5 (.cells Nn 23 (0, 0)) * (own 5 1 (.slice (some ⟨og, 0, .none⟩) 64 oc) 64 (vbs (Sg.clampL dg)) * (blk w.heap.size (.cells Ss 38 (0, 0)) * all w)))).on X ∧ Str w X) ⟨SP.on.drew HXk.out, Str.drew HSk.out⟩ (fun ph a b h st => ⟨h.1.below st, h.2.trans (Str.below st)⟩) ?keep ?keep2 ?store ?todo ?r111
   case keep => exact ⟨Keep.isV _, Keep.isV _, fun _ _ _ h _ => h, fun _ _ _ h _ => h, fun _ _ _ h _ => h, trivial⟩
   case keep2 => exact ⟨Keep.isV _, Keep.isV _, fun _ _ _ h _ => h, fun _ _ _ h _ => h, fun _ _ _ h _ => h, trivial⟩
   case store =>
    intro ev X hT hb hk hf
    have e0 : ev (.tmp 2) = .pointer (some ⟨w.heap.size + 1, 0, .none⟩) := hk.1
    have e1 : ev (.tmp 41) = _ := hf.1
    have hX : (blk (w.heap.size + 1) (.cells Z4 23 (0, 0)) * (blk p5 (.cells Nn 23 (0, 0)) * (own 5 1 (.slice (some ⟨og, 0, .none⟩) 64 oc) 64 (vbs (Sg.clampL dg)) * (blk w.heap.size (.cells Ss 38 (0, 0)) * all w)))).on X := hT.1
    exact OpOk.store_agg _ _ _ rfl (w.heap.size + 1) Nn e0 e1 _ Z4 hX HsNn.out HzNn.out HoNn.out (fun h3 => ⟨⟨h3, hT.2.setRow _ _⟩, trivial, fun i _ hv => vList_free (by
     intro P hP
     simp only [List.mem_cons, List.not_mem_nil, or_false] at hP
     rcases hP with rfl | rfl | rfl | rfl | rfl <;> exact fun _ _ _ h => h) i _ _ _ hv⟩)
   case todo =>
    refine ⟨?_, ?_, ?_, ?_, ?_, trivial⟩
    ·rintro _ ph - h2 ev X hT hb hk hf
     obtain rfl := h2 (by kernel_rfl)
     have e0 : ev (.tmp 5) = .pointer (some ⟨p5, 0, .none⟩) := hk.1
     exact OpOk.l e0 (on_blk_mul (SP.on.right hT.1)) hu4 HsNn.out
    ·intro _ ph h1 h2
     cases ph
     all_goals
      intro ev X hT hb hk hf
      have e0 : ev (.tmp 4) = .slice (some ⟨og, 0, .none⟩) 64 oc := hk.1
      exact OpOk.m rfl e0
    ·intro _ ph h1 h2
     cases ph
     all_goals
      intro ev X hT hb hk hf
      have e0 : ev (.tmp 42) = _ := hf.1
      have hbX : IsBytes X (.slice (some ⟨og, 0, .none⟩) 64 oc) (Sg.clampL dg) := by
       have h8 := SP.on.right (SP.on.right hT.1)
       rw [← Hcl.out] at h8
       have h9 := own_bytes h8
       rwa [Hcl.out] at h9
      obtain ⟨v', hrun, hv'⟩ := run_slice_from (P := Tryd.prog) hbX 32 (by rw [Hcl.out]; decide) _ _ hu8s infoU8
      have hr3 : (Instr.sliceAt 56 (.slice (some ⟨og, 0, .none⟩) 64 oc) (some (.int .i64 32)) Option.none Option.none).run Tryd.prog X = .ok v' X := hrun
      exact OpOk.run (v := v') (W' := X) (by simp [execOp, e0, hb.1, hr3, go_sem]) ⟨hv', Stay.refl _⟩
    ·exact fun h => absurd rfl h
    ·intro _ ph h1 h2
     obtain rfl : ph = true := h1 (by kernel_rfl)
     intro ev X hT hb hk hf
     have e0 := hf.1
     exact OpOk.run (v := ev (.tmp 43)) (W' := X) (by simp [execOp, go_sem]) ⟨e0, Stay.refl _⟩
   intro X hT
   rintro _ rfl _ rfl _ - _ - v3 hv3
   have hX2 : (blk (w.heap.size + 1) (.cells Nn 23 (0, 0)) * (blk p5 (.cells Nn 23 (0, 0)) * (own 5 1 (.slice (some ⟨og, 0, .none⟩) 64 oc) 64 (vbs (Sg.clampL dg)) * (blk w.heap.size (.cells Ss 38 (0, 0)) * all w)))).on X := hT.1
   have gR := on_blk_mul hX2
   have HSX := hide hT.2
   have HX2 := hide hX2
   have HV := hide hv3
   clear hT hX2 hv3
   go_wp2
   refine Rest.done ?_
   go_wp2_with fail
   refine bodyPost_ret (v := .tuple #[.agg Nn, v3]) (results_cell_row_tmp Tryd.results65 _ _ (w.heap.size + 1) _ Nn (0, 0) _ rfl gR hu4 rfl HsNn.out v3 rfl) rfl ⟨og, oc, v3, rfl, ?_, ?_, HSX.out⟩
   ·exact (SP.le.mul (SP.le.refl _) (SP.le_right _ _)).on (SP.on.right (SP.on.right HX2.out))
   ·rw [HR.out, ← HD.out]
    exact HV.out
  | succ k =>
   have hk32 : k < 32 := by omega
   have s1 : (((k + 1 : Nat) : Int) - 1) = (k : Int) := by omega
   rw [s1]
   clear s1
   have hval := lw_val (leN ((Sg.clampL dg).take 32)) k hk32
   have hb256 : (leN ((Sg.clampL dg).take 32)) / 256 ^ k % 256 < 256 := Nat.mod_lt _ (by decide)
   have hll := limb_lt (leN ((Sg.clampL dg).take 32)) (k / 8)
   have hle : limb (leN ((Sg.clampL dg).take 32)) (k / 8) / 256 ^ (k % 8) ≤ limb (leN ((Sg.clampL dg).take 32)) (k / 8) := Nat.div_le_self _ _
   have hstep := lw_step (leN ((Sg.clampL dg).take 32)) k hk32
   have hget := lvs_get _ _ _ (lw_get (leN ((Sg.clampL dg).take 32)) (k + 1) (k / 8) (by omega))
   have hgb := Hget.out k hk32
   have hxn : (UInt8.ofNat ((leN ((Sg.clampL dg).take 32)) / 256 ^ k % 256)).toNat = (leN ((Sg.clampL dg).take 32)) / 256 ^ k % 256 := by rw [UInt8.toNat_ofNat']; omega
   rw [← hxn] at hval
   have hset := lvs_set (lw (leN ((Sg.clampL dg).take 32)) (k + 1)) (k / 8) (limb (leN ((Sg.clampL dg).take 32)) (k / 8) / 256 ^ (k % 8))
   rw [hstep] at hset
   have Hps := hide (show k / 8 < (lvs (lw (leN ((Sg.clampL dg).take 32)) (k + 1))).size by rw [lvs_size, lw_len]; omega)
   have hq4 : ((k / 8 : Nat) : Int) < 4 := by omega
   have hk32' : (k : Int) < 32 := by omega
   have hk64 : (k : Int) < 64 := by omega
   have c1 : IntKind.i64.wrap ((k : Int) / 8) = ((k / 8 : Nat) : Int) := by rw [IntWalk.i64_in _ (by omega)]; omega
   generalize UInt8.ofNat ((leN ((Sg.clampL dg).take 32)) / 256 ^ k % 256) = x at *
   have hx8 := UInt8.toNat_lt x
   generalize limb (leN ((Sg.clampL dg).take 32)) (k / 8) / 256 ^ (k % 8) = z at *
   generalize limb (leN ((Sg.clampL dg).take 32)) (k / 8) / 256 ^ (k + 1 - 8 * (k / 8)) = y at *
   have c5 : IntKind.u64.wrap ((x.toNat : Nat) : Int) = ((x.toNat : Nat) : Int) := wrapS _ (by omega)
   have q6 : IntKind.u64.wrap ((y : Int) * 256) = ((y * 256 : Nat) : Int) := by rw [IntKind.wrap_u64]; omega
   have q7 : IntKind.u64.wrap (((y * 256 : Nat) : Int) + ((x.toNat : Nat) : Int)) = (z : Int) := by rw [IntKind.wrap_u64]; omega
   generalize y * 256 = y2 at *
   have Q6 := hide q6
   have Q7 := hide q7
   have Hcl := hide hget
   have Hgb := hide hgb
   have Hset := hide hset
   have hs8 : (Tryd.prog.info? 22).map (·.size) = some 1 := by kernel_rfl
   clear hset hget q6 q7 hval hb256 hll hle hstep hgb hxn
   generalize lvs (lw (leN ((Sg.clampL dg).take 32)) (k + 1)) = P1 at *
   generalize hP2 : lvs (lw (leN ((Sg.clampL dg).take 32)) k) = P2 at *
   have HP2 := hide hP2
   clear hP2
   generalize k / 8 = q at *
   go_wp2_with fail
   refine AppK.wp_region_set 14 [isV (.int .i64 (k : Int)), isV (.int .i64 ((q : Nat) : Int)), isV (.int .i64 (k : Int)), isV (.int .i64 ((q : Nat) : Int)), isV (.pointer (some ⟨p5, q, .none⟩)), isV (lv y), isV (lv y2), isV (.slice (some ⟨og, 0, .none⟩) 64 oc), isV (.int .i64 (k : Int)), isV (.pointer (some ⟨og, k, .none⟩)), isV (vb x), isV (lv x.toNat), isV (lv z), isV (.pointer (some ⟨p5, q, .none⟩)), (fun _ _ => True)]
    [isV (.int .i64 (k : Int)), isV (.int .i64 ((q : Nat) : Int)), isV (.int .i64 (k : Int)), isV (.int .i64 ((q : Nat) : Int)), isV (.pointer (some ⟨p5, q, .none⟩)), isV (lv y), isV (lv y2), isV (.slice (some ⟨og, 0, .none⟩) 64 oc), isV (.int .i64 (k : Int)), isV (.pointer (some ⟨og, k, .none⟩)), isV (vb x), isV (lv x.toNat), isV (lv z), isV (.pointer (some ⟨p5, q, .none⟩)), (fun _ _ => True)] _ rfl (by kernel_rfl) (by kernel_rfl) rfl (by decide) (.inr rfl) (fun ph X => (blk (p5) (.cells (if ph = true then P2 else P1) 23 (0, 0)) * (own 5 1 (.slice (some ⟨og, 0, .none⟩) 64 oc) 64 (vbs (Sg.clampL dg)) * (blk (w.heap.size + 1) (.cells Z4 23 (0, 0)) * (blk w.heap.size (.cells Ss 38 (0, 0)) * all w)))).on X ∧ Str w X) ⟨SP.on.drew HXk.out, Str.drew HSk.out⟩ (fun ph a b h st => ⟨h.1.below st, h.2.trans (Str.below st)⟩) ?keep ?keep2 ?store ?todo ?r112
   case keep => exact ⟨Keep.isV _, Keep.isV _, Keep.isV _, Keep.isV _, Keep.isV _, Keep.isV _, Keep.isV _, Keep.isV _, Keep.isV _, Keep.isV _, Keep.isV _, Keep.isV _, Keep.isV _, Keep.isV _, fun _ _ _ h _ => h, trivial⟩
   case keep2 => exact ⟨Keep.isV _, Keep.isV _, Keep.isV _, Keep.isV _, Keep.isV _, Keep.isV _, Keep.isV _, Keep.isV _, Keep.isV _, Keep.isV _, Keep.isV _, Keep.isV _, Keep.isV _, Keep.isV _, fun _ _ _ h _ => h, trivial⟩
   case store =>
    intro ev X hT hb hk hf
    have e0 : ev (.tmp 40) = _ := hf.1
    have e1 : ev (.tmp 39) = _ := hf.2.1
    have hX : (blk (p5) (.cells P1 23 (0, 0)) * (own 5 1 (.slice (some ⟨og, 0, .none⟩) 64 oc) 64 (vbs (Sg.clampL dg)) * (blk (w.heap.size + 1) (.cells Z4 23 (0, 0)) * (blk w.heap.size (.cells Ss 38 (0, 0)) * all w)))).on X := hT.1
    exact OpOk.store_one _ _ _ rfl (p5) q (lv z) e0 e1 rfl _ P1 hX hs8 Hps.out rfl P2 Hset.out (fun h3 => ⟨⟨h3, hT.2.setRow _ _⟩, trivial, fun i _ hv => vList_free (by
     intro P hP
     simp only [List.mem_cons, List.not_mem_nil, or_false] at hP
     rcases hP with rfl | rfl | rfl | rfl | rfl | rfl | rfl | rfl | rfl | rfl | rfl | rfl | rfl | rfl | rfl <;> exact fun _ _ _ h => h) i _ _ _ hv⟩)
   case todo =>
    refine ⟨?_, ?_, ?_, ?_, ?_, ?_, ?_, ?_, ?_, ?_, ?_, ?_, ?_, ?_, ?_, trivial⟩
    ·rintro _ ph - h2 ev X hT hb hk hf
     obtain rfl := h2 (by kernel_rfl)
     have e0 : ev (.tmp 6) = .int .i64 (k : Int) := hk.1
     exact OpOk.m rfl e0
    ·rintro _ ph - h2 ev X hT hb hk hf
     obtain rfl := h2 (by kernel_rfl)
     have e0 : ev (.tmp 27) = _ := hf.1
     exact OpOk.r (by simp [execOp, e0, hb.1, c1, go_sem])
    ·rintro _ ph - h2 ev X hT hb hk hf
     obtain rfl := h2 (by kernel_rfl)
     have e0 : ev (.tmp 6) = .int .i64 (k : Int) := hk.1
     exact OpOk.m rfl e0
    ·rintro _ ph - h2 ev X hT hb hk hf
     obtain rfl := h2 (by kernel_rfl)
     have e0 : ev (.tmp 29) = _ := hf.1
     exact OpOk.r (by simp [execOp, e0, hb.1, c1, go_sem])
    ·rintro _ ph - h2 ev X hT hb hk hf
     obtain rfl := h2 (by kernel_rfl)
     have e0 : ev (.tmp 5) = .pointer (some ⟨p5, 0, .none⟩) := hk.1
     have e1 : ev (.tmp 30) = _ := hf.1
     exact OpOk.r (by simp [execOp, e0, e1, hb.1, hq4, go_sem]; try (intro h; omega))
    ·rintro _ ph - h2 ev X hT hb hk hf
     obtain rfl := h2 (by kernel_rfl)
     have e0 : ev (.tmp 31) = _ := hf.1
     have cW := (cell_of_row X (p5) q _ _ _ (on_blk_mul hT.1)).trans Hcl.out
     exact OpOk.r (by simp [execOp, e0, cW, go_sem])
    ·rintro _ ph - h2 ev X hT hb hk hf
     obtain rfl := h2 (by kernel_rfl)
     have e0 : ev (.tmp 32) = _ := hf.1
     exact OpOk.r (by have h9 := Q6.out; simp [execOp, e0, hb.1, h9, go_sem])
    ·rintro _ ph - h2 ev X hT hb hk hf
     obtain rfl := h2 (by kernel_rfl)
     have e0 : ev (.tmp 4) = .slice (some ⟨og, 0, .none⟩) 64 oc := hk.1
     exact OpOk.m rfl e0
    ·rintro _ ph - h2 ev X hT hb hk hf
     obtain rfl := h2 (by kernel_rfl)
     have e0 : ev (.tmp 6) = .int .i64 (k : Int) := hk.1
     exact OpOk.m rfl e0
    ·rintro _ ph - h2 ev X hT hb hk hf
     obtain rfl := h2 (by kernel_rfl)
     have e0 : ev (.tmp 34) = _ := hf.1
     have e1 : ev (.tmp 35) = _ := hf.2.1
     exact OpOk.r (by simp [execOp, e0, e1, hb.1, hu8s, hk64, go_sem]; try (intro h; omega))
    ·rintro _ ph - h2 ev X hT hb hk hf
     obtain rfl := h2 (by kernel_rfl)
     have e0 : ev (.tmp 36) = _ := hf.1
     have cW := own_cell hT.1.right k (vb x) Hgb.out
     exact OpOk.r (by simp [execOp, e0, cW, go_sem])
    ·rintro _ ph - h2 ev X hT hb hk hf
     obtain rfl := h2 (by kernel_rfl)
     have e0 : ev (.tmp 37) = _ := hf.1
     exact OpOk.r (by simp [execOp, e0, hb.1, hu6, hu8, c5, go_sem])
    ·rintro _ ph - h2 ev X hT hb hk hf
     obtain rfl := h2 (by kernel_rfl)
     have e0 : ev (.tmp 33) = _ := hf.1
     have e1 : ev (.tmp 38) = _ := hf.2.1
     exact OpOk.r (by have h9 := Q7.out; simp [execOp, e0, e1, h9, go_sem])
    ·rintro _ ph - h2 ev X hT hb hk hf
     obtain rfl := h2 (by kernel_rfl)
     have e0 : ev (.tmp 5) = .pointer (some ⟨p5, 0, .none⟩) := hk.1
     have e1 : ev (.tmp 28) = _ := hf.1
     exact OpOk.r (by simp [execOp, e0, e1, hb.1, hq4, go_sem]; try (intro h; omega))
    ·exact fun h => absurd rfl h
   intro X hT
   rintro _ - _ - _ - _ - _ - _ - _ - _ - _ - _ - _ - _ - _ - _ - _ -
   have hX2 : (blk (p5) (.cells P2 23 (0, 0)) * (own 5 1 (.slice (some ⟨og, 0, .none⟩) 64 oc) 64 (vbs (Sg.clampL dg)) * (blk (w.heap.size + 1) (.cells Z4 23 (0, 0)) * (blk w.heap.size (.cells Ss 38 (0, 0)) * all w)))).on X := hT.1
   have HX2 := hide hX2
   have HST := hide hT.2
   clear hT hX2
   go_wp2
   refine Rest.done ?_
   go_wp2_with fail
   refine ⟨⟨k, by omega, rfl, by rw [HP2.out]; exact HX2.out, HST.out⟩, by simp [intOf]⟩
end Cv
end Go.Proofs.YtbplbdnofobbiaaDoor
