/- sign: the laws' example; tables and arguments. -/
import Derived.Test.YtbplbdnofobbiaaDoorSg3
import Derived.Test.YtbplbdnofobbiaaDoorSg7
import Derived.Test.YtbplbdnofobbiaaDoorGSha
import Derived.Test.YtbplbdnofobbiaaDoorGBase
set_option linter.unusedVariables false
set_option linter.unusedSimpArgs false
set_option maxRecDepth 100000
set_option maxHeartbeats 8000000
namespace Go.Proofs.YtbplbdnofobbiaaDoor
namespace Cv
open Fe
open Go.ChangeShapes Go.WideShapes Go.ChangeAt Go.RowKit
structure TabS (w : World) : Prop where
 h : Sha64.Tab w
 c : TabC w
 d : TabD w
 o : TabO w
theorem TabS.below {w X : World} (t : TabS w) (hb : Below w.heap.size w X) : TabS X := ⟨t.h.below hb, t.c.below hb, t.d.below hb, t.o.below hb⟩
theorem tab_order8 {W : World} (hL : laidMet Tryd.prog [("bosun/scalar.order", Rows.laid_bosun_scalar_order)] W) : TabO W := by
 have e1 : (Rows.laid_bosun_scalar_order : DataW Unit) = Lib.tabData .u64 ((qs 4 O6).map fun x : Nat => (x : Int)) := by
  rw [show qs 4 O6 = [6346243789798364141, 1503914060200516822, 0, 1152921504606846976] by decide +kernel]; kernel_rfl
 rw [e1] at hL
 have t1 := Lib.tabIs_of_head (g := 2) (t := 51) (e := 22) (n := 4) (by kernel_rfl) (by kernel_rfl) Tryd.underlying51 Tryd.underlying22 (by kernel_rfl) (by kernel_rfl) hL
 intro i hi
 have := t1.cell (g := 2) (by kernel_rfl) i (by rw [List.length_map, qs_len]; exact hi)
 rw [this, List.getD_eq_getElem?_getD, List.getElem?_map, qs_get 4 _ i hi]
 rfl
theorem tab_sign {W : World} (hL : laidMetH Tryd.prog [("bosun/field.modulus", Rows.laid_bosun_field_modulus), ("bosun/field.lessTwo", Rows.laid_bosun_field_lessTwo), ("bosun/field.eighth", Rows.laid_bosun_field_eighth), ("bosun/field.rootOfMinusOne", Rows.laid_bosun_field_rootOfMinusOne), ("bosun/longsum.first", Rows.laid_bosun_longsum_first), ("bosun/longsum.rounds", Rows.laid_bosun_longsum_rounds), ("bosun/scalar.order", Rows.laid_bosun_scalar_order), ("bosun/curve.d", Rows.laid_bosun_curve_d), ("bosun/curve.dTwice", Rows.laid_bosun_curve_dTwice), ("bosun/curve.baseX", Rows.laid_bosun_curve_baseX), ("bosun/curve.baseY", Rows.laid_bosun_curve_baseY)] W) : TabS W := by
 rw [MakeChecks.laidMetH_plain _ _ _ (by kernel_rfl)] at hL
 refine ⟨Sha64.tab_of_laid ?_, ⟨⟨tb_m (laidMet.filter (fun x => x.1 == "bosun/field.modulus") hL)⟩, tb_l (laidMet.filter (fun x => x.1 == "bosun/field.lessTwo") hL), tc_x (laidMet.filter (fun x => x.1 == "bosun/curve.baseX") hL), tc_y (laidMet.filter (fun x => x.1 == "bosun/curve.baseY") hL), tc_dd (laidMet.filter (fun x => x.1 == "bosun/curve.dTwice") hL)⟩, ⟨⟨tb_e (laidMet.filter (fun x => x.1 == "bosun/field.eighth") hL), tb_r (laidMet.filter (fun x => x.1 == "bosun/field.rootOfMinusOne") hL)⟩, tc_d (laidMet.filter (fun x => x.1 == "bosun/curve.d") hL)⟩, tab_order8 (laidMet.filter (fun x => x.1 == "bosun/scalar.order") hL)⟩
 rw [MakeChecks.laidMetH_plain _ _ _ (by kernel_rfl)]
 exact laidMet.filter (fun x => x.1 == "bosun/longsum.first" || x.1 == "bosun/longsum.rounds") hL
section
variable {H : Type} {enc : TypeId × Value → H} {w : World} {base : Nat} {spare : Nat → Bool} {held : Bool}
theorem open_b64 {v : Value} {d : DataW H} {p : List MemPlace} {r : _} {base' : Nat} (hv : Value.okWide Tryd.prog w r base' 61 v) (h : DataW.Trod enc Tryd.prog w base spare held 61 v d p) : ∃ l : List UInt8, v = .agg (zb l) ∧ l.length = 64 := by
 obtain ⟨cs, rfl, hsz⟩ := okS_array Tryd.underlying61 hv
 obtain ⟨fuel, hf⟩ := h
 obtain ⟨l, hl, e⟩ := trodS_arr8 Tryd.underlying61 Tryd.underlying5 (by kernel_rfl) (by kernel_rfl) hf
 have e' : cs.toList = vbs l := e
 refine ⟨l, ?_, hl⟩
 unfold zb
 rw [← e', Array.toArray_toList]
end
theorem zb_of (l : List UInt8) (h : l.length = 32) : zb l = zB (leN l) := by unfold zB; rw [bl_leN l h]
theorem gC_of (l : List UInt8) (h : l.length = 64) : zb l = gC (leN (l.take 32)) (leN (l.drop 32)) := by
 unfold gC
 rw [bl_leN _ (by rw [List.length_take, h]; rfl), bl_leN _ (by rw [List.length_drop, h]), List.take_append_drop]
theorem halves (l : List UInt8) (h : l.length = 64) : bl (leN (l.take 32)) ++ bl (leN (l.drop 32)) = l := by
 rw [bl_leN _ (by rw [List.length_take, h]; rfl), bl_leN _ (by rw [List.length_drop, h]), List.take_append_drop]
theorem half_lt (l : List UInt8) (h : l.length = 64) : leN (l.take 32) < 256 ^ 32 ∧ leN (l.drop 32) < 256 ^ 32 := by
 have h1 := leN_lt (l.take 32)
 have h2 := leN_lt (l.drop 32)
 rw [List.length_take, h] at h1
 rw [List.length_drop, h] at h2
 exact ⟨h1, h2⟩
theorem leN_lt8 (l : List UInt8) (hl : l.length = 32) : leN l < 256 ^ 32 := by
 have := leN_lt l
 rwa [hl] at this
theorem sver_l (key sig : List UInt8) (hk : key.length = 32) (hs : sig.length = 64) (v : Value) (ls : List (List UInt8)) (w : World) (h : IsRows w v ls) (hz : ∀ n c, v = .slice Option.none n c → c = 0) (hT : TabS w) (hls : ls.length ≤ 1000) (hlen : ls.flatten.length ≤ 1000000) :
  Calls Tryd.prog 33 #[.agg (zb key), .agg (zb sig), v] w fun e w' => e = .returned (.int .i64 (verE (Sg.verB key sig ls.flatten))) ∧ Below w.heap.size w w' := by
 have h1 := sverify_any (leN key) (leN (sig.take 32)) (leN (sig.drop 32)) (leN_lt8 key hk) (half_lt sig hs).1 (half_lt sig hs).2 v ls w h hz hT.h hT.c hT.d hT.o hls hlen
 rw [halves sig hs, bl_leN key hk, ← zb_of key hk, ← gC_of sig hs] at h1
 exact h1
theorem rver_l (key sig : List UInt8) (hk : key.length = 32) (hs : sig.length = 64) (v : Value) (m : List UInt8) (w : World) (h : IsBytes w v m) (hm : m.length ≤ 10000) :
  Calls Tryd.prog 34 #[.agg (zb key), v, .agg (zb sig)] w fun e w' => e = .returned (.bool (Sg.verB key sig m)) ∧ Below w.heap.size w w' := by
 have h1 := mverify_any (leN key) (leN (sig.take 32)) (leN (sig.drop 32)) (leN_lt8 key hk) (half_lt sig hs).1 (half_lt sig hs).2 v m w h hm
 rw [halves sig hs, bl_leN key hk, ← zb_of key hk, ← gC_of sig hs] at h1
 exact h1
theorem z64Info (l : List UInt8) (h : l.length = 64) : (Tryd.prog.info? 61).map (·.size) = some (zb l).size := by rw [gC_of l h]; exact hInfo _ _
theorem z64Zero (w : World) : (zeroValue 61).run Tryd.prog w = .ok (.agg (zb (List.replicate 64 0))) w := by kernel_rfl
theorem z64Size (a b : List UInt8) (h1 : a.length = 64) (h2 : b.length = 64) : (zb a).size = (zb b).size := by simp [zb, vbs, h1, h2]
theorem run_kKey (w : World) : (Instr.build 38 #[(0, .int .u8 215), (1, .int .u8 90), (2, .int .u8 152), (3, .int .u8 1), (4, .int .u8 130), (5, .int .u8 177), (6, .int .u8 10), (7, .int .u8 183), (8, .int .u8 213), (9, .int .u8 75), (10, .int .u8 254), (11, .int .u8 211), (12, .int .u8 201), (13, .int .u8 100), (14, .int .u8 7), (15, .int .u8 58), (16, .int .u8 14), (17, .int .u8 225), (18, .int .u8 114), (19, .int .u8 243), (20, .int .u8 218), (21, .int .u8 166), (22, .int .u8 35), (23, .int .u8 37), (24, .int .u8 175), (25, .int .u8 2), (26, .int .u8 26), (27, .int .u8 104), (28, .int .u8 247), (29, .int .u8 7), (30, .int .u8 81), (31, .int .u8 26)]).run Tryd.prog w = .ok (.agg (zb Sg.kKey)) w := by kernel_rfl
theorem run_kSig (w : World) : (Instr.build 61 #[(0, .int .u8 229), (1, .int .u8 86), (2, .int .u8 67), (3, .int .u8 0), (4, .int .u8 195), (5, .int .u8 96), (6, .int .u8 172), (7, .int .u8 114), (8, .int .u8 144), (9, .int .u8 134), (10, .int .u8 226), (11, .int .u8 204), (12, .int .u8 128), (13, .int .u8 110), (14, .int .u8 130), (15, .int .u8 138), (16, .int .u8 132), (17, .int .u8 135), (18, .int .u8 127), (19, .int .u8 30), (20, .int .u8 184), (21, .int .u8 229), (22, .int .u8 217), (23, .int .u8 116), (24, .int .u8 216), (25, .int .u8 115), (26, .int .u8 224), (27, .int .u8 101), (28, .int .u8 34), (29, .int .u8 73), (30, .int .u8 1), (31, .int .u8 85), (32, .int .u8 95), (33, .int .u8 184), (34, .int .u8 130), (35, .int .u8 21), (36, .int .u8 144), (37, .int .u8 163), (38, .int .u8 59), (39, .int .u8 172), (40, .int .u8 198), (41, .int .u8 30), (42, .int .u8 57), (43, .int .u8 112), (44, .int .u8 28), (45, .int .u8 249), (46, .int .u8 180), (47, .int .u8 107), (48, .int .u8 210), (49, .int .u8 91), (50, .int .u8 245), (51, .int .u8 240), (52, .int .u8 89), (53, .int .u8 91), (54, .int .u8 190), (55, .int .u8 36), (56, .int .u8 101), (57, .int .u8 81), (58, .int .u8 65), (59, .int .u8 67), (60, .int .u8 142), (61, .int .u8 122), (62, .int .u8 16), (63, .int .u8 11)]).run Tryd.prog w = .ok (.agg (zb Sg.kSig)) w := by kernel_rfl
theorem bc_arm {ops : Array Oper} {rest : List Oper} {o : Oper} {a : Act} {w : World} {Q : Exit → Act → World → Prop} (hw : Region.wanted o (yielded ops a.tmps) = true) (T : TypeId) (parts : List (Nat × Operand)) (ho : o.op = .build T parts.toArray)
  (vals : List (Nat × Value)) (R : Array Value) (hb : (Instr.build T vals.toArray).run Tryd.prog w = .ok (.agg R) w) (hv : (parts.map fun (i, x) => (i, a.eval x)) = vals) (hk : wpList Tryd.prog ops Q rest (a.put o.dst (.agg R)) w) : wpList Tryd.prog ops Q (o :: rest) a w := by
 have hr : (execOp a.eval o).run Tryd.prog w = .ok (.value (.agg R)) w := by
  unfold execOp
  rw [ho]
  simp only [List.map_toArray, hv]
  rw [Sem.run_bind, hb]; rfl
 exact wpList_step fun _ hK => by
  rw [if_pos hw]; unfold Oper.wp; simp only [hr]; exact hK _ _ hk
theorem known_any (w : World) :
  Calls Tryd.prog 64 #[] w fun e w' => e = .returned (.tuple #[.agg (zb Sg.kKey), .agg (zb Sg.kSig)]) ∧ Below w.heap.size w w' := by
 obtain ⟨HsKk, HoKk, HzKk⟩ := b3 (bInfo Sg.kKey rfl) (bOne Sg.kKey) (bSize (List.replicate 32 0) Sg.kKey (by simp) rfl)
 obtain ⟨HsGg, HoGg, HzGg⟩ := b3 (z64Info Sg.kSig rfl) (zb_one Sg.kSig) (z64Size (List.replicate 64 0) Sg.kSig (by simp) rfl)
 have hzB := bZero
 have hzH := z64Zero
 have hub := Tryd.underlying38
 have huh := Tryd.underlying61
 have Hb1 := hide run_kKey
 have Hb2 := hide run_kSig
 have h0 := ((on_all w).alloc (.cells (zb (List.replicate 32 0)) 38)).alloc (.cells (zb (List.replicate 64 0)) 61)
 have s0 := ((Str.refl w).alloc (.cells (zb (List.replicate 32 0)) 38)).alloc (.cells (zb (List.replicate 64 0)) 61)
 try simp only [World.size_alloc] at h0
 have H1 := hide h0
 have S1 := hide s0
 clear h0 s0
 generalize zb Sg.kKey = Kk at *
 generalize zb Sg.kSig = Gg at *
 generalize zb (List.replicate 32 0) = ZB at *
 generalize zb (List.replicate 64 0) = ZH at *
 go_enter Tryd.func64, Tryd.ntmps64
 refine wp_seq_h fun K1 hK1 => ?_
 go_wp2_with fail
 refine hK1.out _ _ ?_
 clear hK1 K1
 generalize (w.alloc (.cells ZB 38)).alloc (.cells ZH 61) = w1 at *
 refine wp_seq_h fun K2 hK2 => ?_
 obtain ⟨gN, gM, H2, S2⟩ := newV H1.out S1.out ZB Kk 38
 go_wp2_with (first
  | (refine bc_arm rfl 38 _ rfl _ Kk (Hb1.out _) rfl ?_)
  | (refine wS gN HsKk HzKk HoKk ?_))
 refine hK2.out _ _ ?_
 clear hK2 K2
 generalize (w1.alloc (.cells ZB 38)).setRow w1.heap.size Kk = w2 at *
 clear gN gM H1 S1
 generalize w1.heap.size = p2 at *
 refine wp_seq_h fun K3 hK3 => ?_
 obtain ⟨gN, gM, H3, S3⟩ := newV H2.out S2.out ZH Gg 61
 go_wp2_with (first
  | (refine bc_arm rfl 61 _ rfl _ Gg (Hb2.out _) rfl ?_)
  | (refine wS gN HsGg HzGg HoGg ?_))
 refine hK3.out _ _ ?_
 clear hK3 K3
 generalize (w2.alloc (.cells ZH 61)).setRow w2.heap.size Gg = w3 at *
 clear gN gM H2 S2
 generalize w2.heap.size = p3 at *
 go_wp2_with fail
 have h9 := H3.out
 rw [show (blk (p3) (.cells Gg 61 (0, 0)) * (blk (p2) (.cells Kk 38 (0, 0)) * (blk (w.heap.size + 1) (.cells ZH 61 (0, 0)) * (blk (w.heap.size) (.cells ZB 38 (0, 0)) * all w)))) = (blk (w.heap.size + 1) (.cells ZH 61 (0, 0)) * (blk w.heap.size (.cells ZB 38 (0, 0)) * (blk p3 (.cells Gg 61 (0, 0)) * (blk p2 (.cells Kk 38 (0, 0)) * all w)))) by ac_rfl] at h9
 have H9 := hide h9
 clear h9
 refine Multi.wp_region_multi [2, 3] [2, 3] [isV (.agg Kk), isV (.agg Gg), (fun _ _ => True), (fun _ _ => True)]
  (by kernel_rfl) (by kernel_rfl) (by kernel_rfl) ⟨rfl, rfl, trivial⟩ (fun f X => (blk (w.heap.size + 1) (.cells (if f 3 = true then Gg else ZH) 61 (0, 0)) * (blk w.heap.size (.cells (if f 2 = true then Kk else ZB) 38 (0, 0)) * (blk p3 (.cells Gg 61 (0, 0)) * (blk p2 (.cells Kk 38 (0, 0)) * all w)))).on X ∧ Str w X) ⟨SP.on.drew H9.out, Str.drew S3.out⟩ (fun f a b h st => ⟨h.1.below st, h.2.trans (Str.below st)⟩) (fun f g X h hI => by rw [← h 2 rfl, ← h 3 rfl]; exact hI) ?keep ?todo ?r120 (by decide)
 case keep => exact ⟨Keep.isV _, Keep.isV _, fun _ _ _ h _ => h, fun _ _ _ h _ => h, trivial⟩
 case todo =>
  refine ⟨?_, ?_, ?_, ?_, trivial⟩
  ·intro f hf0 hw hn ev X hT hb hk hf
   have e0 : ev (.tmp 2) = .pointer (some ⟨p2, 0, .none⟩) := by have h9 := hk.1; rw [if_pos (by kernel_rfl)] at h9; exact h9
   exact OpOk.load_row _ _ rfl _ e0 _ Kk (0, 0) _ (on_blk_mul (SP.on.right (SP.on.right (SP.on.right hT.1)))) hub rfl HsKk.out (Multi.ended_stay rfl rfl (Stay.refl _))
  ·intro f hf0 hw hn ev X hT hb hk hf
   have e0 : ev (.tmp 3) = .pointer (some ⟨p3, 0, .none⟩) := by have h9 := hk.1; rw [if_pos (by kernel_rfl)] at h9; exact h9
   exact OpOk.load_row _ _ rfl _ e0 _ Gg (0, 0) _ (on_blk_mul (SP.on.right (SP.on.right hT.1))) huh rfl HsGg.out (Multi.ended_stay rfl rfl (Stay.refl _))
  ·intro f hf0 hw hn ev X hT hb hk hf
   have e0 : ev (.tmp 0) = .pointer (some ⟨w.heap.size, 0, .none⟩) := by have h9 := hk.1; rw [if_pos (by kernel_rfl)] at h9; exact h9
   have e1 : ev (.tmp 6) = _ := hf.1
   have f3 : f 3 = false := hn 3 (by kernel_rfl)
   have hX := hT.1
   rw [f3, hf0, if_neg (by decide), if_neg (by decide), SP.mul_left_comm] at hX
   exact OpOk.store_agg _ _ _ rfl (w.heap.size) Kk e0 e1 _ ZB hX HsKk.out HzKk.out HoKk.out (fun h3 => Multi.ended_turn rfl trivial ⟨by rw [SP.mul_left_comm] at h3; simp only [f3]; exact h3, hT.2.setRow _ _⟩ (Multi.free_keep (by
    intro P hP
    simp only [List.mem_cons, List.not_mem_nil, or_false] at hP
    rcases hP with rfl | rfl | rfl | rfl <;> exact fun _ _ _ h => h) _ _))
  ·intro f hf0 hw hn ev X hT hb hk hf
   have e0 : ev (.tmp 1) = .pointer (some ⟨w.heap.size + 1, 0, .none⟩) := by have h9 := hk.1; rw [if_pos (by kernel_rfl)] at h9; exact h9
   have e1 : ev (.tmp 7) = _ := hf.1
   have f2 : f 2 = true := hw 2 (by kernel_rfl)
   have hX := hT.1
   rw [f2, hf0, if_neg (by decide), if_pos rfl] at hX
   exact OpOk.store_agg _ _ _ rfl (w.heap.size + 1) Gg e0 e1 _ ZH hX HsGg.out HzGg.out HoGg.out (fun h3 => Multi.ended_turn rfl trivial ⟨by simp only [f2]; exact h3, hT.2.setRow _ _⟩ (Multi.free_keep (by
    intro P hP
    simp only [List.mem_cons, List.not_mem_nil, or_false] at hP
    rcases hP with rfl | rfl | rfl | rfl <;> exact fun _ _ _ h => h) _ _))
 intro X hT
 rintro _ rfl _ rfl _ - _ -
 rw [if_pos rfl, if_pos rfl] at hT
 have hX := hT.1
 have gC1 := on_blk_mul hX.right
 have gC2 := on_blk_mul hX
 have HB := hide (all_below hX.right.right.right.right hT.2)
 clear hT hX
 go_wp2
 refine Rest.done ?_
 go_wp2_with fail
 exact bodyPost_ret (v := .tuple #[.agg Kk, .agg Gg]) (results_two Tryd.results64 _ _ (w.heap.size) (w.heap.size + 1) Kk Gg rfl (run_loadVar_row _ _ _ _ _ _ _ gC1 hub rfl HsKk.out) rfl (run_loadVar_row _ _ _ _ _ _ _ gC2 huh rfl HsGg.out)) rfl ⟨rfl, HB.out⟩
theorem lives08_any (w : World) (hT : TabS w) :
  Calls Tryd.prog 30 #[] w fun e w' => e = .returned (.bool true) ∧ Below w.heap.size w w' := by
 obtain ⟨HsKk, HoKk, HzKk⟩ := b3 (bInfo Sg.kKey rfl) (bOne Sg.kKey) (bSize (List.replicate 32 0) Sg.kKey (by simp) rfl)
 obtain ⟨HsGg, HoGg, HzGg⟩ := b3 (z64Info Sg.kSig rfl) (zb_one Sg.kSig) (z64Size (List.replicate 64 0) Sg.kSig (by simp) rfl)
 have hzB := bZero
 have hzH := z64Zero
 have hub := Tryd.underlying38
 have huh := Tryd.underlying61
 have HsGb := hide (z64Info Sg.kBad rfl)
 have HoGb := hide (zb_one Sg.kBad)
 have hk0 := hide known_any
 have k1 := fun X (h1 : Below w.heap.size w X) => sver_l Sg.kKey Sg.kSig rfl rfl _ [] X (IsRows.nil X) (fun n c e => by injection e with _ _ e3; exact e3.symm) (hT.below h1) (by simp) (by simp)
 have k2 := fun X (h1 : Below w.heap.size w X) => sver_l Sg.kKey Sg.kBad rfl rfl _ [] X (IsRows.nil X) (fun n c e => by injection e with _ _ e3; exact e3.symm) (hT.below h1) (by simp) (by simp)
 have k3 := fun g X (h1 : Below w.heap.size w X) (hr : IsRows X (.slice (some ⟨g, 0, .none⟩) 1 1) [[0]]) => sver_l Sg.kKey Sg.kSig rfl rfl _ [[0]] X hr (fun n c e => by injection e with e1; cases e1) (hT.below h1) (by simp) (by simp)
 rw [show ([] : List (List UInt8)).flatten = [] from rfl, Sg.known_ok, show verE true = 0 from rfl] at k1
 rw [show ([] : List (List UInt8)).flatten = [] from rfl, Sg.known_bad, show verE false = 9 from rfl] at k2
 rw [show ([[0]] : List (List UInt8)).flatten = [0] from rfl, Sg.known_more, show verE false = 9 from rfl] at k3
 have hk1 := hide k1
 have hk2 := hide k2
 have hk3 := hide k3
 have hx4 : bits .xor .u8 198 4 = 194 := by decide
 have Hx4 := hide hx4
 have Hc40 : Hid ((zb Sg.kSig)[40]? = some (.int .u8 198)) := hide rfl
 have Hset : Hid ((zb Sg.kSig).setIfInBounds 40 (.int .u8 194) = zb Sg.kBad) := hide (zb_set Sg.kSig 40 194)
 have h0 := on_all w
 have s0 := Str.refl w
 have H1 := hide h0
 have S1 := hide s0
 clear h0 s0 k1 k2 k3 hx4 hT
 generalize zb Sg.kBad = Gb at *
 generalize zb Sg.kKey = Kk at *
 generalize zb Sg.kSig = Gg at *
 generalize zb (List.replicate 32 0) = ZB at *
 generalize zb (List.replicate 64 0) = ZH at *
 go_enter Tryd.func30, Tryd.ntmps30
 refine wp_seq_h fun K4 hK4 => ?_
 go_wp2_with fail
 refine hK4.out _ _ ?_
 clear hK4 K4
 skip
 refine wp_seq_h fun K5 hK5 => ?_
 go_wp2_with fail
 refine (hk0.out _).mono ?_
 rintro e w2 ⟨rfl, hB⟩
 obtain ⟨H2, S2⟩ := nx H1.out S1.out hB
 clear hB H1 S1
 have h1 := H2.out.alloc (.cells ZB 38)
 have h2 := h1.alloc (.cells ZH 61)
 simp only [World.size_alloc] at h2
 have gA := on_blk_mul h2.right
 have h3 := st1 h2 (cs := Kk)
 have gB := on_blk_mul h3
 have h4 := st0 h3 (cs := Gg)
 have H3 := hide h4
 have S3 := hide ((((S2.out.alloc (.cells ZB 38)).alloc (.cells ZH 61)).setRow w2.heap.size Kk).setRow (w2.heap.size + 1) Gg)
 clear h1 h2 h3 h4
 go_wp2_with (first
  | (refine wS gA HsKk HzKk HoKk ?_)
  | (refine wS gB HsGg HzGg HoGg ?_))
 refine hK5.out _ _ ?_
 clear hK5 K5
 generalize (((w2.alloc (.cells ZB 38)).alloc (.cells ZH 61)).setRow w2.heap.size Kk).setRow (w2.heap.size + 1) Gg = w3 at *
 generalize w2.heap.size = p1 at *
 clear gA gB H2 S2
 refine wp_seq_h fun K6 hK6 => ?_
 have gL := on_blk_mul H3.out
 obtain ⟨gN, gM, H4, S4⟩ := newV H3.out S3.out ZH Gg 61
 go_wp2_with (first
  | (refine wS gN HsGg HzGg HoGg ?_)
  | (refine wL gL huh HsGg ?_))
 refine hK6.out _ _ ?_
 clear hK6 K6
 generalize (w3.alloc (.cells ZH 61)).setRow w3.heap.size Gg = w4 at *
 clear gN gM H3 S3
 clear gL
 generalize w3.heap.size = p3 at *
 refine wp_seq_h fun K7 hK7 => ?_
 have hc := (cell_of_row w4 p3 40 Gg _ _ (on_blk_mul H4.out)).trans Hc40.out
 have hfr := frozen_of_row w4 p3 40 _ _ (on_blk_mul H4.out)
 have hst := SP.on.setCell (i := 40) H4.out (.int .u8 194)
 rw [Hset.out] at hst
 have H5 := hide hst
 have S5 := hide (S4.out.setCell ⟨p3, 40, .none⟩ (.int .u8 194))
 have hx4 := Hx4.out
 clear hst
 go_wp2_with fail
 refine hK7.out _ _ ?_
 clear hK7 K7
 generalize w4.setCell ⟨p3, 40, .none⟩ (.int .u8 194) = w5 at *
 clear hc hfr hx4 H4 S4
 have gK := on_blk_mul H5.out.right.right
 have gG := on_blk_mul H5.out.right
 go_wp2_with (first
  | (refine wL gK hub HsKk ?_)
  | (refine load_row_w rfl _ _ rfl (p1) rfl _ Kk _ _ gK hub rfl HsKk ?_)
  | (refine wL gG huh HsGg ?_)
  | (refine load_row_w rfl _ _ rfl (p1 + 1) rfl _ Gg _ _ gG huh rfl HsGg ?_))
 clear gK gG
 refine (hk1.out _ (all_below H5.out.right.right.right S5.out)).mono ?_
 rintro e w6 ⟨rfl, hB⟩
 obtain ⟨H6, S6⟩ := nx H5.out S5.out hB
 clear hB H5 S5
 have gK := on_blk_mul H6.out.right.right
 have gB := on_blk_mul H6.out
 go_wp2_with (first
  | (refine wL gK hub HsKk ?_)
  | (refine load_row_w rfl _ _ rfl (p1) rfl _ Kk _ _ gK hub rfl HsKk ?_)
  | (refine wL gB huh HsGb ?_)
  | (refine load_row_w rfl _ _ rfl (p3) rfl _ Gb _ _ gB huh rfl HsGb ?_))
 clear gK gB
 refine (hk2.out _ (all_below H6.out.right.right.right S6.out)).mono ?_
 rintro e w7 ⟨rfl, hB⟩
 obtain ⟨H7, S7⟩ := nx H6.out S6.out hB
 clear hB H6 S6
 have gK := on_blk_mul H7.out.right.right
 have gG := on_blk_mul H7.out.right
 go_wp2_with (first
  | (refine wL gK hub HsKk ?_)
  | (refine load_row_w rfl _ _ rfl (p1) rfl _ Kk _ _ gK hub rfl HsKk ?_)
  | (refine wL gG huh HsGg ?_)
  | (refine load_row_w rfl _ _ rfl (p1 + 1) rfl _ Gg _ _ gG huh rfl HsGg ?_))
 clear gK gG
 have hb : IsBytes (w7.alloc (.cells #[.int .u8 0] 5)) (.slice (some ⟨w7.heap.size, 0, .none⟩) 1 1) [0] := IsBytes.new w7 [0] (by decide) 5
 have hr := IsRows.one hb 56
 rw [World.size_alloc] at hr
 have H20 := hide (SP.on.alloc' (SP.on.alloc' H7.out (.cells #[.int .u8 0] 5)) (.cells #[.slice (some ⟨w7.heap.size, 0, .none⟩) 1 1] 56))
 have S20 := hide ((S7.out.alloc (.cells #[.int .u8 0] 5)).alloc (.cells #[.slice (some ⟨w7.heap.size, 0, .none⟩) 1 1] 56))
 refine (hk3.out _ _ (all_below H20.out.right.right.right S20.out) hr).mono ?_
 clear hr hb
 rintro e w9 ⟨rfl, hB⟩
 have HB := hide (all_below (H20.out.below hB).right.right.right (S20.out.trans (Str.below hB)))
 clear hB
 go_wp2_with fail
 go_ret
 exact ⟨rfl, HB.out⟩
end Cv
end Go.Proofs.YtbplbdnofobbiaaDoor
