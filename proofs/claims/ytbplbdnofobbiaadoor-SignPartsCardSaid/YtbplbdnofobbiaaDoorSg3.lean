/- sign: whether a signature is one; the program's answer. -/
import Derived.Test.YtbplbdnofobbiaaDoorSg2
import Derived.Test.YtbplbdnofobbiaaDoorGCv3
import Derived.Laws.CopyOwn
set_option linter.unusedVariables false
set_option linter.unusedSimpArgs false
set_option maxRecDepth 100000
set_option maxHeartbeats 8000000
namespace Go.Proofs.YtbplbdnofobbiaaDoor
namespace Cv
open Fe
open Go.ChangeShapes Go.WideShapes Go.ChangeAt Go.RowKit
theorem gInfo (r s : Nat) : (Tryd.prog.info? 105).map (·.size) = some (gC r s).size := by rw [gC_sz]; kernel_rfl
theorem gZero (w : World) : (zeroValue 105).run Tryd.prog w = .ok (.agg (gC 0 0)) w := by rw [g0]; kernel_rfl
theorem gLay {F : SP} {X : World} {g r s : Nat} {t : TypeId} (h : (blk g (.cells (gC r s) t (0, 0)) * F).on X) : Lay X (some ⟨g, 0, .none⟩) (vbs (bl r)) ∧ Lay X (some ⟨g, 32, .none⟩) (vbs (bl s)) := by
 have e := on_blk_mul h
 have hL : Lay X (some ⟨g, 0, .none⟩) (vbs (bl r ++ bl s)) := by
  obtain ⟨a, c, e1, _, _, e4, _⟩ := zb_lay (l := bl r ++ bl s) e (by rw [gC_len]; unfold maxLen; omega)
  injection e1 with e1
  rw [e1]; exact e4
 have l1 := hL.take 32
 have l2 := hL.drop 32
 have h1 : (vbs (bl r)).length = 32 := by rw [vbl, bl_len]
 rw [show vbs (bl r ++ bl s) = vbs (bl r) ++ vbs (bl s) by simp] at l1 l2
 rw [List.take_append_of_le_length (by omega), List.take_of_length_le (by omega)] at l1
 rw [List.drop_append_of_le_length (by omega), List.drop_of_length_le (by omega), List.nil_append] at l2
 exact ⟨l1, by simpa using l2⟩
theorem wpList_copy_zB {w : World} {ops : Array Oper} {rest : List Oper} {o : Oper} {a : Act} {Q : Exit → Act → World → Prop} (hgd : o.guard = Option.none) (d s : Operand)
  (ho : o.op = .call { callee := .builtin .copy, args := #[d, s], argTypes := #[56, 56] }) (g dc c b off : Nat) (hd : a.eval d = .slice (some ⟨g, 0, .none⟩) 32 dc) (hs : a.eval s = .slice (some ⟨b, off, .none⟩) 32 c)
  (m : Nat) (Z : Array Value) (t : TypeId) (hz : Z.size = 32) (hg : w.heap[g]? = some (.cells Z t (0, 0))) (hl : Lay w (some ⟨b, off, .none⟩) (vbs (bl m)))
  (h : wpList Tryd.prog ops Q rest (a.put o.dst (goInt 32)) (w.setRow g (zB m))) : wpList Tryd.prog ops Q (o :: rest) a w := by
 have hlen : (vbs (bl m)).length = 32 := by rw [vbl, bl_len]
 refine wpList_copy_own hgd d s _ _ ho 5 Tryd.underlying56 (by kernel_rfl) g 0 32 dc ⟨b, off, .none⟩ 32 c hd hs Z t hg (vbs (bl m)) hlen ?_ (by omega) (vbs_one _) ?_
 ·intro j v hv
  have := Lay.cell hl j hv
  have ea : (⟨b, off, .none⟩ : Addr).add j = ⟨b, off + j, .none⟩ := by unfold Addr.add; split <;> simp_all
  rw [ea]; exact this
 ·have e1 : (Z.toList.take 0 ++ (vbs (bl m) ++ Z.toList.drop (0 + (vbs (bl m)).length))).toArray = zB m := by
   rw [List.take_zero, List.nil_append, List.drop_of_length_le (by rw [hlen, Array.length_toList]; omega), List.append_nil]; rfl
  rw [e1, hlen]
  exact h
theorem decV_cases (n : Nat) : ∃ (A : Array Value) (e : Int), decV n = .tuple #[.agg A, .int .i64 e] ∧ (Tryd.prog.info? 27).map (·.size) = some A.size ∧ A.all (·.oneCell') = true ∧ (pC 0 0).size = A.size ∧
  ((e = 0 ∧ ∃ p, Ed.decPt (bl n) = some p ∧ A = ptC p) ∨ (e = 7 ∧ Ed.decPt (bl n) = Option.none)) := by
 unfold decV
 cases h : Ed.decPt (bl n) with
 | none => exact ⟨_, _, rfl, pInfo 0 0, pC_one 0 0, rfl, .inr ⟨rfl, rfl⟩⟩
 | some p => exact ⟨_, _, rfl, ptInfo p, ptOne p, ptZ p, .inl ⟨rfl, p, rfl, rfl⟩⟩
theorem decN_cases (s : Nat) (hs : s < 256 ^ 32) : ∃ (A : Array Value) (e : Int), decN (bl s) = .tuple #[.agg A, .int .i64 e] ∧ (Tryd.prog.info? 51).map (·.size) = some A.size ∧ A.all (·.oneCell') = true ∧ (q4 0).size = A.size ∧
  ((e = 0 ∧ s < O6 ∧ A = q4 s) ∨ (e = 7 ∧ ¬ s < O6)) := by
 unfold decN
 rw [leN_bl s hs]
 by_cases h : s < O6
 ·rw [if_pos h]; exact ⟨_, _, rfl, nmInfo s, eOne s, eSize 0 s, .inl ⟨rfl, h, rfl⟩⟩
 ·rw [if_neg h]; exact ⟨_, _, rfl, nmInfo 0, eOne 0, rfl, .inr ⟨rfl, h⟩⟩
def verE (b : Bool) : Int := if b then 0 else 9
theorem ver_take (r s : Nat) : (bl r ++ bl s).take 32 = bl r ∧ (bl r ++ bl s).drop 32 = bl s := by
 have h := bl_len r
 rw [List.take_append_of_le_length (by omega), List.take_of_length_le (by omega), List.drop_append_of_le_length (by omega), List.drop_of_length_le (by omega)]
 exact ⟨rfl, rfl⟩
theorem ver_no1 (k r s : Nat) (m : List UInt8) (h : Ed.decPt (bl k) = Option.none) : Sg.verB (bl k) (bl r ++ bl s) m = false := by
 unfold Sg.verB Ed.verify
 rw [h]
theorem ver_no2 (k r s : Nat) (m : List UInt8) (h : Ed.decPt (bl r) = Option.none) : Sg.verB (bl k) (bl r ++ bl s) m = false := by
 unfold Sg.verB Ed.verify
 rw [(ver_take r s).1, h]
 cases Ed.decPt (bl k) <;> rfl
theorem ver_no3 (k r s : Nat) (hs : s < 256 ^ 32) (m : List UInt8) (h : ¬ s < O6) : Sg.verB (bl k) (bl r ++ bl s) m = false := by
 unfold Sg.verB Ed.verify
 rw [(ver_take r s).1, (ver_take r s).2, leN_bl s hs, decide_eq_false h]
 cases Ed.decPt (bl k) <;> cases Ed.decPt (bl r) <;> rfl
theorem ver_is (k r s : Nat) (hs : s < 256 ^ 32) (m : List UInt8) (a p : Ed.Pt) (h1 : Ed.decPt (bl k) = some a) (h2 : Ed.decPt (bl r) = some p) (h : s < O6) :
  Sg.verB (bl k) (bl r ++ bl s) m = decide (Ed.Pt.base.mul s = p.sum (a.mul (Sg.chalN (bl r ++ bl k ++ m)))) := by
 unfold Sg.verB Ed.verify
 rw [(ver_take r s).1, (ver_take r s).2, h1, h2]
 dsimp only
 rw [leN_bl s hs, decide_eq_true h, Bool.true_and]
 rfl
theorem O6_256 : O6 < 2 ^ 256 := by decide +kernel
theorem sverify_any (k r s : Nat) (hk : k < 256 ^ 32) (hr : r < 256 ^ 32) (hs : s < 256 ^ 32) (v : Value) (ls : List (List UInt8)) (w : World) (h : IsRows w v ls) (hz : ∀ n c, v = .slice Option.none n c → c = 0) (hT6 : Sha64.Tab w) (hT : TabC w) (hD : TabD w) (hO : TabO w) (hls : ls.length ≤ 1000) (hlen : ls.flatten.length ≤ 1000000) :
  Calls Tryd.prog 33 #[.agg (zB k), .agg (gC r s), v] w fun e w' => e = .returned (.int .i64 (verE (Sg.verB (bl k) (bl r ++ bl s) ls.flatten))) ∧ Below w.heap.size w w' := by
 have huk := Tryd.underlying104
 have hug := Tryd.underlying105
 have hub := Tryd.underlying38
 have husn := Tryd.underlying51
 have hup := Tryd.underlying27
 have hzK := keZero
 have hzG := gZero
 have hzB := zBZero
 have hzC := nmZero
 have hzP := pZero
 have h0 := ((on_all w).alloc (.cells (zB k) 104)).alloc (.cells (gC r s) 105)
 have s0 := ((Str.refl w).alloc (.cells (zB k) 104)).alloc (.cells (gC r s) 105)
 try simp only [World.size_alloc] at h0
 have H1 := hide h0
 have S1 := hide s0
 clear h0 s0
 have hu8 := Tryd.underlying56
 have hTab := hide hT
 have hTabD := hide hD
 have h1000 := Sg.chalN_lt (bl r ++ bl k ++ ls.flatten)
 have hO2 := O6_256
 have hn1 := fun h => ver_no1 k r s ls.flatten h
 have hn2 := fun h => ver_no2 k r s ls.flatten h
 have hn3 := fun h => ver_no3 k r s hs ls.flatten h
 have hv1 := fun a p h1 h2 h => ver_is k r s hs ls.flatten a p h1 h2 h
 have hk1 := hide (fun X h1 h2 => pdecode_any k hk X h1 h2)
 have hk2 := hide (fun X h1 h2 => pdecode_any r hr X h1 h2)
 have k3 := fun X h1 => _root_.Go.Proofs.YtbplbdnofobbiaaDoor.decode_any (bl s) (bl_len s) X h1
 change ∀ X, TabO X → Calls Tryd.prog 70 #[.agg (zB s)] X fun e w' => e = .returned (decN (bl s)) ∧ Below X.heap.size X w' at k3
 have hk3 := hide k3
 have hk4 := hide (fun X (h1 : Below w.heap.size w X) => schal_any k r v ls X (h.below h1) hz (hT6.below h1) (hO.below h1) hls hlen)
 have hk5 := hide (fun X (h1 : Below w.heap.size w X) => base_pt X (hT.below h1))
 have hkt := hide (fun p n X (hn : n < O6) (h1 : Below w.heap.size w X) => ptimes_pt p n (Nat.lt_trans hn hO2) X (hT.below h1))
 have hka := hide (fun p q u X h2 (h1 : Below w.heap.size w X) => padd_2 p q u X h2 (hT.below h1))
 have hks := hide (fun p q X => psame_pt p q X)
 have hpp := hide (fun p q X => run_pp2 p q X)
 have HTo := hide hO
 have hHB : Hid (Below w.heap.size w w) := hide (Below.refl _ _)
 have Hpi := hide ptInfo
 have Hpo := hide ptOne
 have Hpz := hide ptZ
 have hc5 := hide (fun p q (X : World) => (IsPs.of (heap_alloc_new X (.cells (psC [ptN p, ptN q]) 27)) : IsPs (X.alloc (.cells (psC [ptN p, ptN q]) 27)) (.slice (some ⟨X.heap.size, 0, .none⟩) 2 2) [ptN p, ptN q]))
 obtain ⟨PA, eA, edA, sA, oA, zA, cA⟩ := decV_cases k
 obtain ⟨PR, eR, edR, sR, oR, zR, cR⟩ := decV_cases r
 obtain ⟨SV, eS, edS, sS, oS, zS, cS⟩ := decN_cases s hs
 rw [edA] at hk1
 rw [edR] at hk2
 rw [edS] at hk3
 have HsPA := hide sA
 have HoPA := hide oA
 have HzPA := hide zA
 have HsPR := hide sR
 have HoPR := hide oR
 have HzPR := hide zR
 have HsSV := hide sS
 have HoSV := hide oS
 have HzSV := hide zS
 have HcA := hide cA
 have HcR := hide cR
 have HcS := hide cS
 have HgL := hide (fun X g (F : SP) t => gLay (X := X) (g := g) (F := F) (r := r) (s := s) (t := t))
 have HzB32 : Hid ((zB 0).size = 32) := hide (by rw [show (zB 0).size = (bl 0).length by simp [zB, zb, vbs], bl_len])
 have Hcl := hide h1000
 obtain ⟨vb0, hvb⟩ : ∃ b, b = Sg.verB (bl k) (bl r ++ bl s) ls.flatten := ⟨_, rfl⟩
 rw [← hvb] at hn1 hn2 hn3 hv1
 have Hn1 := hide hn1
 have Hn2 := hide hn2
 have Hn3 := hide hn3
 have Hv1 := hide hv1
 clear hn1 hn2 hn3 hv1 k3 edA sA oA zA cA edR sR oR zR cR edS sS oS zS cS h1000 hO2 hk hr hs hz hlen h
 rw [← hvb]
 clear hvb
 obtain ⟨HsKk, HoKk, HzKk⟩ := b3 (keInfo k) (zBOne k) (zBSize 0 k)
 obtain ⟨HsGg, HoGg, HzGg⟩ := b3 (gInfo r s) (gOne r s) (gSize 0 0 r s)
 obtain ⟨HsRr, HoRr, HzRr⟩ := b3 (zBInfo r) (zBOne r) (zBSize 0 r)
 obtain ⟨HsSs, HoSs, HzSs⟩ := b3 (zBInfo s) (zBOne s) (zBSize 0 s)
 obtain ⟨HsCc, HoCc, HzCc⟩ := b3 (nmInfo (Sg.chalN (bl r ++ bl k ++ ls.flatten))) (eOne (Sg.chalN (bl r ++ bl k ++ ls.flatten))) (eSize 0 (Sg.chalN (bl r ++ bl k ++ ls.flatten)))
 generalize zB k = Kk at *
 generalize hvGg : gC r s = Gg at *
 have hvGg := hide hvGg
 generalize hvRr : zB r = Rr at *
 have hvRr := hide hvRr
 generalize hvSs : zB s = Ss at *
 have hvSs := hide hvSs
 generalize hvCc : q4 (Sg.chalN (bl r ++ bl k ++ ls.flatten)) = Cc at *
 have hvCc := hide hvCc
 generalize zB 0 = ZB at *
 generalize gC 0 0 = ZG at *
 generalize q4 0 = Z4 at *
 generalize pC 0 0 = Zp at *
 generalize Sg.chalN (bl r ++ bl k ++ ls.flatten) = cN at *
 go_enter Tryd.func33, Tryd.ntmps33
 refine wp_seq_h fun K1 hK1 => ?_
 go_wp2_with fail
 refine hK1.out _ _ ?_
 clear hK1 K1
 generalize (w.alloc (.cells Kk 104)).alloc (.cells Gg 105) = w1 at *
 refine wp_seq_h fun K2 hK2 => ?_
 have h1 := H1.out.alloc (.cells ZB 38)
 have h2 := h1.alloc (.cells ZB 38)
 simp only [World.size_alloc] at h2
 have H2 := hide h2
 have S2 := hide ((S1.out.alloc (.cells ZB 38)).alloc (.cells ZB 38))
 clear h1 h2 H1 S1
 go_wp2_with fail
 refine hK2.out _ _ ?_
 clear hK2 K2
 generalize (w1.alloc (.cells ZB 38)).alloc (.cells ZB 38) = w2 at *
 generalize w1.heap.size = p7 at *
 go_wp2_with fail
 refine wp_tail 2 [isV (.slice (some ⟨p7, 0, .none⟩) 32 32), isV (.slice (some ⟨w.heap.size + 1, 0, .none⟩) 32 64)] ?keep ?todo ?r107
 case keep => exact ⟨Keep.isV _, Keep.isV _, trivial⟩
 case todo =>
  refine ⟨?_, ?_, trivial⟩
  ·intro ev X hT hb hk hf
   have e0 : ev (.tmp 7) = .pointer (some ⟨p7, 0, .none⟩) := hk.1
   exact OpOk.r (by simp [execOp, e0, hub, go_sem])
  ·intro ev X hT hb hk hf
   have e0 : ev (.tmp 4) = .pointer (some ⟨w.heap.size + 1, 0, .none⟩) := hk.1
   exact OpOk.r (by simp [execOp, e0, hb.1, hug, go_sem])
 intro w3 hX
 rintro _ rfl _ rfl
 obtain ⟨H3, S3⟩ := nx H2.out S2.out hX
 clear hX H2 S2
 go_wp2
 refine Rest.done ?_
 have gY := H3.out.right.right
 have gLy := (HgL.out _ _ _ _ gY).1
 clear gY
 have H4 := hide (st1 H3.out (cs := Rr))
 have S4 := hide (S3.out.setRow (p7) Rr)
 have gW := on_blk_mul H3.out.right
 refine wpList_copy_zB rfl _ _ rfl (p7) _ _ (w.heap.size + 1) 0 rfl rfl r ZB _ HzB32.out gW gLy ?_
 rw [hvRr.out]
 go_wp2_with fail
 clear gLy
 generalize w3.setRow (p7) Rr = w4 at *
 clear gW H3 S3
 refine wp_tail 2 [isV (.slice (some ⟨p7 + 1, 0, .none⟩) 32 32), isV (.slice (some ⟨w.heap.size + 1, 32, .none⟩) 32 32)] ?keep ?todo ?r108
 case keep => exact ⟨Keep.isV _, Keep.isV _, trivial⟩
 case todo =>
  refine ⟨?_, ?_, trivial⟩
  ·intro ev X hT hb hk hf
   have e0 : ev (.tmp 8) = .pointer (some ⟨p7 + 1, 0, .none⟩) := hk.1
   exact OpOk.r (by simp [execOp, e0, hub, go_sem])
  ·intro ev X hT hb hk hf
   have e0 : ev (.tmp 4) = .pointer (some ⟨w.heap.size + 1, 0, .none⟩) := hk.1
   exact OpOk.r (by simp [execOp, e0, hb.1, hug, go_sem])
 intro w5 hX
 rintro _ rfl _ rfl
 obtain ⟨H5, S5⟩ := nx H4.out S4.out hX
 clear hX H4 S4
 go_wp2
 refine Rest.done ?_
 have gY := H5.out.right.right
 have gLy := (HgL.out _ _ _ _ gY).2
 clear gY
 have H6 := hide (st0 H5.out (cs := Ss))
 have S6 := hide (S5.out.setRow (p7 + 1) Ss)
 have gW := on_blk_mul H5.out
 refine wpList_copy_zB rfl _ _ rfl (p7 + 1) _ _ (w.heap.size + 1) 32 rfl rfl s ZB _ HzB32.out gW gLy ?_
 rw [hvSs.out]
 have gA := on_blk_mul H6.out.right.right.right
 go_wp2_with (first
  | (refine wL gA huk HsKk ?_))
 clear gA
 clear gLy
 generalize w5.setRow (p7 + 1) Ss = w6 at *
 clear gW H5 S5
 refine (hk1.out _ (hTab.out.below (all_below H6.out.right.right.right.right S6.out)) (hTabD.out.below (all_below H6.out.right.right.right.right S6.out))).mono ?_
 rintro e w7 ⟨rfl, hB⟩
 obtain ⟨H7, S7⟩ := nx H6.out S6.out hB
 clear hB H6 S6
 obtain ⟨gN, gM, H8, S8⟩ := newV H7.out S7.out Zp PA 27
 have gL0 := on_blk_mul H8.out.right.right
 go_wp2_with (first
  | (refine wS gN HsPA HzPA HoPA ?_)
  | (refine wL gL0 hub HsRr ?_))
 clear gL0
 generalize (w7.alloc (.cells Zp 27)).setRow w7.heap.size PA = w8 at *
 clear gN gM H7 S7
 generalize w7.heap.size = p9 at *
 refine (hk2.out _ (hTab.out.below (all_below H8.out.right.right.right.right.right S8.out)) (hTabD.out.below (all_below H8.out.right.right.right.right.right S8.out))).mono ?_
 rintro e w9 ⟨rfl, hB⟩
 obtain ⟨H9, S9⟩ := nx H8.out S8.out hB
 clear hB H8 S8
 obtain ⟨gN, gM, H10, S10⟩ := newV H9.out S9.out Zp PR 27
 have gL0 := on_blk_mul H10.out.right.right
 go_wp2_with (first
  | (refine wS gN HsPR HzPR HoPR ?_)
  | (refine wL gL0 hub HsSs ?_))
 clear gL0
 generalize (w9.alloc (.cells Zp 27)).setRow w9.heap.size PR = w10 at *
 clear gN gM H9 S9
 generalize w9.heap.size = p11 at *
 refine (hk3.out _ (HTo.out.below (all_below H10.out.right.right.right.right.right.right S10.out))).mono ?_
 rintro e w11 ⟨rfl, hB⟩
 obtain ⟨H11, S11⟩ := nx H10.out S10.out hB
 clear hB H10 S10
 obtain ⟨gN, gM, H12, S12⟩ := newV H11.out S11.out Z4 SV 51
 have HB := hide (all_below H12.out.right.right.right.right.right.right.right S12.out)
 rcases HcA.out with ⟨rfl, pA, hdA, hPA⟩ | ⟨rfl, hdA⟩
 ·have HdA := hide hdA
  have HPA := hide hPA
  clear hdA hPA
  rcases HcR.out with ⟨rfl, pR, hdR, hPR⟩ | ⟨rfl, hdR⟩
  ·have HdR := hide hdR
   have HPR := hide hPR
   clear hdR hPR
   rcases HcS.out with ⟨rfl, hsO, hSV⟩ | ⟨rfl, hsO⟩
   ·have hver := Hv1.out pA pR HdA.out HdR.out hsO
    have kS := hide hSV
    have q1 := fun X (h1 : Below w.heap.size w X) => hkt.out Ed.Pt.base s X hsO h1
    rw [← hSV] at q1
    have q2 := fun X (h1 : Below w.heap.size w X) => hkt.out pA cN X Hcl.out h1
    rw [← HPA.out, hvCc.out] at q2
    have hq1 := hide q1
    have hq2 := hide q2
    have hq3 := hide (fun X => hks.out (Ed.Pt.base.mul s) (pR.sum (pA.mul cN)) X)
    have hq4 := hide (fun u X h2 (h1 : Below w.heap.size w X) => hka.out pR (pA.mul cN) u X h2 h1)
    have hq5 := hide (fun X => hpp.out pR (pA.mul cN) X)
    have hq6 := hide (fun X => hc5.out pR (pA.mul cN) X)
    have hq0 := hk5
    generalize hbb : decide (Ed.Pt.base.mul s = pR.sum (pA.mul cN)) = bb at *
    have Hver := hide hver
    generalize psC [ptN pR, ptN (pA.mul cN)] = C2 at *
    generalize hP1 : ptC (pA.mul cN) = PY at *
    generalize hP2 : ptC (Ed.Pt.base.mul s) = PX at *
    generalize hP3 : ptC (pR.sum (pA.mul cN)) = PZ at *
    generalize hP4 : ptC Ed.Pt.base = PB at *
    rw [← HPR.out] at hq5
    clear hver q1 q2 hsO hSV hbb hP1 hP2 hP3 hP4
    have gK := on_blk_mul H12.out.right.right.right.right.right.right
    have gR9 := on_blk_mul H12.out.right.right.right.right
    go_wp2_with (first
     | (refine wS gN HsSV HzSV HoSV ?_)
     | (refine wL gK huk HsKk ?_)
     | (refine wL gR9 hub HsRr ?_))
    clear gK gR9 HB
    generalize (w11.alloc (.cells Z4 51)).setRow w11.heap.size SV = w12 at *
    clear gN gM H11 S11
    generalize w11.heap.size = p13 at *
    refine (hk4.out _ (all_below H12.out.right.right.right.right.right.right.right S12.out)).mono ?_
    rintro e w13 ⟨rfl, hB⟩
    obtain ⟨H13, S13⟩ := nx H12.out S12.out hB
    clear hB H12 S12
    obtain ⟨gN, gM, H14, S14⟩ := newV H13.out S13.out Z4 Cc 51
    go_wp2_with (first
     | (refine wS gN HsCc HzCc HoCc ?_))
    generalize (w13.alloc (.cells Z4 51)).setRow w13.heap.size Cc = w14 at *
    clear gN gM H13 S13
    generalize w13.heap.size = p15 at *
    refine wp_tail 10 [isV (.agg PB), isV (.agg SV), isV (.agg PX), isV (.agg PR), isV (.agg PA), isV (.agg Cc), isV (.agg PY), fun v X => IsPs X v [ptN pR, ptN (pA.mul cN)], isV (.agg PZ), isV (.bool bb)] ?keep ?todo ?r109
    case keep => exact ⟨Keep.isV _, Keep.isV _, Keep.isV _, Keep.isV _, Keep.isV _, Keep.isV _, Keep.isV _, fun _ _ _ h k => IsPs.below h k, Keep.isV _, Keep.isV _, trivial⟩
    case todo =>
     refine ⟨?_, ?_, ?_, ?_, ?_, ?_, ?_, ?_, ?_, ?_, trivial⟩
     ·intro ev X hT hb hk hf
      exact OpOk.c (by simp [execOp, resolve, invoke, hb.1, hb.2.1, go_sem]) (hq0.out X (all_below (H14.out.below hT).right.right.right.right.right.right.right.right (S14.out.trans (Str.below hT))))
     ·exact fun ev X hT hb hk hf => OpOk.l (x := .tmp 13) hk.1 (on_blk_mul (H14.out.below hT).right) husn HsSV.out
     ·intro ev X hT hb hk hf
      have e0 : ev (.tmp 51) = _ := hf.1
      have e1 : ev (.tmp 52) = _ := hf.2.1
      refine OpOk.enters (f := 23) (args := #[.agg PB, .agg SV]) (W' := X) (by simp [execOp, resolve, invoke, e0, e1, hb.1, hb.2.1, go_sem]) ((hq1.out X (all_below (H14.out.below hT).right.right.right.right.right.right.right.right (S14.out.trans (Str.below hT)))).mono ?_)
      rintro e _ ⟨rfl, hB⟩
      exact ⟨_, rfl, rfl, hB⟩
     ·exact fun ev X hT hb hk hf => OpOk.l (x := .tmp 11) hk.1 (on_blk_mul (H14.out.below hT).right.right) hup HsPR.out
     ·exact fun ev X hT hb hk hf => OpOk.l (x := .tmp 9) hk.1 (on_blk_mul (H14.out.below hT).right.right.right) hup HsPA.out
     ·exact fun ev X hT hb hk hf => OpOk.l (x := .tmp 15) hk.1 (on_blk_mul (H14.out.below hT)) husn HsCc.out
     ·intro ev X hT hb hk hf
      have e0 : ev (.tmp 55) = _ := hf.1
      have e1 : ev (.tmp 56) = _ := hf.2.1
      refine OpOk.enters (f := 23) (args := #[.agg PA, .agg Cc]) (W' := X) (by simp [execOp, resolve, invoke, e0, e1, hb.1, hb.2.1, go_sem]) ((hq2.out X (all_below (H14.out.below hT).right.right.right.right.right.right.right.right (S14.out.trans (Str.below hT)))).mono ?_)
      rintro e _ ⟨rfl, hB⟩
      exact ⟨_, rfl, rfl, hB⟩
     ·intro ev X hT hb hk hf
      have e0 : ev (.tmp 54) = _ := hf.1
      have e1 : ev (.tmp 57) = _ := hf.2.1
      exact OpOk.run (v := .slice (some ⟨X.heap.size, 0, .none⟩) 2 2) (W' := X.alloc (.cells C2 27)) (by simp [execOp, e0, e1, hq5.out X]) ⟨hq6.out X, (Below.refl X.heap.size X).alloc (Nat.le_refl _) _⟩
     ·intro ev X hT hb hk hf
      have e0 : IsPs X (ev (.tmp 58)) [ptN pR, ptN (pA.mul cN)] := hf.1
      have e0 : IsPs X (ev (.tmp 58)) [ptN pR, ptN (pA.mul cN)] := hf.1
      exact OpOk.c (by simp [execOp, resolve, invoke, hb.1, hb.2.1, go_sem]) (hq4.out _ X e0 (all_below (H14.out.below hT).right.right.right.right.right.right.right.right (S14.out.trans (Str.below hT))))
     ·intro ev X hT hb hk hf
      have e0 : ev (.tmp 53) = _ := hf.1
      have e1 : ev (.tmp 59) = _ := hf.2.1
      exact OpOk.c (by simp [execOp, resolve, invoke, e0, e1, hb.1, hb.2.1, go_sem]) (hq3.out X)
    intro w15 hX
    rintro _ rfl _ rfl _ rfl _ rfl _ rfl _ rfl _ rfl _ - _ rfl _ rfl
    obtain ⟨H15, S15⟩ := nx H14.out S14.out hX
    clear hX H14 S14
    go_wp2
    refine Rest.done ?_
    have HB := hide (all_below H15.out.right.right.right.right.right.right.right.right S15.out)
    rcases Bool.eq_false_or_eq_true bb with rfl | rfl
    ·skip
     go_wp2_with fail
     go_ret
     exact ⟨by rw [Hver.out]; rfl, HB.out⟩
    ·skip
     go_wp2_with fail
     go_ret
     exact ⟨by rw [Hver.out]; rfl, HB.out⟩
   ·have hver := Hn3.out hsO
    clear hsO
    have Hver := hide hver
    clear hver
    go_wp2_with (first
     | (refine wS gN HsSV HzSV HoSV ?_))
    go_ret
    exact ⟨by rw [Hver.out]; rfl, HB.out⟩
  ·have hver := Hn2.out hdR
   clear hdR
   have Hver := hide hver
   clear hver
   go_wp2_with (first
    | (refine wS gN HsSV HzSV HoSV ?_))
   go_ret
   exact ⟨by rw [Hver.out]; rfl, HB.out⟩
 ·have hver := Hn1.out hdA
  clear hdA
  have Hver := hide hver
  clear hver
  go_wp2_with (first
   | (refine wS gN HsSV HzSV HoSV ?_))
  go_ret
  exact ⟨by rw [Hver.out]; rfl, HB.out⟩
end Cv
end Go.Proofs.YtbplbdnofobbiaaDoor
