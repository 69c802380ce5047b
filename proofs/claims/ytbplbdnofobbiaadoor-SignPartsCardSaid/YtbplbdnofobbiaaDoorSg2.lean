/- sign: the number that a signature hangs on, of parts. -/
import Derived.Test.YtbplbdnofobbiaaDoorSg1
import Derived.Test.YtbplbdnofobbiaaDoorCv10
import Derived.Test.YtbplbdnofobbiaaDoorCv8
import Derived.Test.YtbplbdnofobbiaaDoorGSha
import Derived.Test.YtbplbdnofobbiaaDoorGSc3
import Derived.Test.YtbplbdnofobbiaaDoorGSl
set_option linter.unusedVariables false
set_option linter.unusedSimpArgs false
set_option maxRecDepth 100000
set_option maxHeartbeats 8000000
namespace Go.Proofs.YtbplbdnofobbiaaDoor
namespace Cv
open Fe
open Go.ChangeShapes Go.WideShapes Go.ChangeAt Go.RowKit
theorem keInfo (n : Nat) : (Tryd.prog.info? 104).map (·.size) = some (zB n).size := by
 rw [show (zB n).size = 32 by simp [zB, zb, vbs, bl_len]]; kernel_rfl
theorem keZero (w : World) : (zeroValue 104).run Tryd.prog w = .ok (.agg (zB 0)) w := by unfold zB; rw [bl_0]; kernel_rfl
theorem run_rr2 (a b : Option Addr) (n c m d : Nat) (w : World) : (Instr.buildSlice 106 2 #[(0, .slice a n c), (1, .slice b m d)]).run Tryd.prog w = .ok (.slice (some ⟨w.heap.size, 0, .none⟩) 2 2) (w.alloc (.cells #[.slice a n c, .slice b m d] 56)) := by kernel_rfl
theorem rows_own {F : SP} {X : World} {e : TypeId} {v : Value} {n : Nat} {xs : List Value} {ls : List (List UInt8)} (h : (own e 1 v n xs * F).on X) (hl : xs.length = ls.length)
  (hin : ∀ (i : Nat) (u : Value) (l : List UInt8), xs[i]? = some u → ls[i]? = some l → IsBytes X u l) : IsRows X v ls := by
 have hn := (own_cases h).1
 obtain ⟨a, c, rfl, h2, h3, h4, h5⟩ := own_value h
 obtain rfl : n = ls.length := by omega
 exact ⟨a, c, xs, rfl, h2, h3, h4, hl, hin⟩
theorem rows_cat {X : World} {us vs : List Value} {ks ls : List (List UInt8)} (h1 : us.length = ks.length)
  (hu : ∀ (i : Nat) (u : Value) (l : List UInt8), us[i]? = some u → ks[i]? = some l → IsBytes X u l) (hv : ∀ (i : Nat) (u : Value) (l : List UInt8), vs[i]? = some u → ls[i]? = some l → IsBytes X u l)
  (i : Nat) (u : Value) (l : List UInt8) (e1 : (us ++ vs)[i]? = some u) (e2 : (ks ++ ls)[i]? = some l) : IsBytes X u l := by
 rw [List.getElem?_append] at e1 e2
 rw [h1] at e1
 by_cases h : i < ks.length
 ·rw [if_pos h] at e1 e2; exact hu i u l e1 e2
 ·rw [if_neg h] at e1 e2; exact hv _ u l e1 e2
theorem rows_two {X : World} {u1 u2 : Value} {l1 l2 : List UInt8} (h1 : IsBytes X u1 l1) (h2 : IsBytes X u2 l2) (i : Nat) (u : Value) (l : List UInt8) (e1 : [u1, u2][i]? = some u) (e2 : [l1, l2][i]? = some l) : IsBytes X u l := by
 match i, e1, e2 with
 | 0, e1, e2 => simp at e1 e2; subst e1; subst e2; exact h1
 | 1, e1, e2 => simp at e1 e2; subst e1; subst e2; exact h2
 | i + 2, e1, _ => simp at e1
theorem rows_cells {X : World} {vs : List Value} {ls : List (List UInt8)} (hl : vs.length = ls.length) (hv : ∀ (i : Nat) (u : Value) (l : List UInt8), vs[i]? = some u → ls[i]? = some l → IsBytes X u l) :
  ∀ u ∈ vs, u.oneCell' = true := by
 intro u hu
 obtain ⟨i, hi, rfl⟩ := List.mem_iff_getElem.1 hu
 obtain ⟨a, c, e, _⟩ := hv i vs[i] ls[i] (List.getElem?_eq_getElem hi) (List.getElem?_eq_getElem (by omega))
 rw [e]; rfl
theorem zB_lay {F : SP} {X : World} {g n : Nat} {t : TypeId} (h : (blk g (.cells (zB n) t (0, 0)) * F).on X) : IsBytes X (.slice (some ⟨g, 0, .none⟩) 32 32) (bl n) := by
 have := zb_lay (l := bl n) (on_blk_mul h) (by rw [bl_len]; unfold maxLen; omega)
 rwa [bl_len] at this
theorem dlLay {F : SP} {X : World} {g : Nat} {l : List UInt8} {t : TypeId} (hl : l.length = 64) (h : (blk g (.cells (Sha64.bv l) t (0, 0)) * F).on X) : IsBytes X (.slice (some ⟨g, 0, .none⟩) 64 64) l := by
 have := zb_lay (l := l) (on_blk_mul h) (by rw [hl]; unfold maxLen; omega)
 rwa [hl] at this
def gC (r s : Nat) : Array Value := zb (bl r ++ bl s)
theorem gC_len (r s : Nat) : (bl r ++ bl s).length = 64 := by rw [List.length_append, bl_len, bl_len]
theorem gC_sz (r s : Nat) : (gC r s).size = 64 := by
 have h := gC_len r s
 show (zb (bl r ++ bl s)).size = 64
 rw [show (zb (bl r ++ bl s)).size = (bl r ++ bl s).length by simp [zb, vbs]]; exact h
theorem gOne (r s : Nat) : (gC r s).all (·.oneCell') = true := zb_one _
theorem gSize (a b r s : Nat) : (gC a b).size = (gC r s).size := by rw [gC_sz, gC_sz]
theorem g0 : gC 0 0 = zb (List.replicate 64 0) := by
 unfold gC
 rw [bl_0]; rfl
theorem infoRR : (Tryd.prog.info? 56).map (fun i => (i.zero, i.size, i.bytes)) = some (some (.slice Option.none 0 0), 1, 24) := by kernel_rfl
theorem info_all {P : Program} {t : TypeId} {z : Value} {s b : Nat} (h : (P.info? t).map (fun i => (i.zero, i.size, i.bytes)) = some (some z, s, b)) : ∃ i, P.info? t = some i ∧ i.zero = some z ∧ i.size = s ∧ i.bytes = b := by
 cases hq : P.info? t with
 | none => simp [hq] at h
 | some i => simp [hq] at h; exact ⟨i, rfl, h⟩
theorem schal_any (k r : Nat) (v : Value) (ls : List (List UInt8)) (w : World) (h : IsRows w v ls) (hz : ∀ n c, v = .slice Option.none n c → c = 0) (hT : Sha64.Tab w) (hO : TabO w) (hls : ls.length ≤ 1000) (hlen : ls.flatten.length ≤ 1000000) :
  Calls Tryd.prog 71 #[.agg (zB k), .agg (zB r), v] w fun e w' => e = .returned (.agg (q4 (Sg.chalN (bl r ++ bl k ++ ls.flatten)))) ∧ Below w.heap.size w w' := by
 have Hr := hide h
 obtain ⟨a, c, vs, rfl, hc, hm, hlay, hvl, hin⟩ := h
 have hac : a = Option.none → c = 0 := fun e => hz _ _ (by rw [e])
 have huk := Tryd.underlying104
 have hub := Tryd.underlying38
 have husn := Tryd.underlying51
 have hzK := keZero
 have hzB := zBZero
 have hzC := nmZero
 have h0 := (((on_all w).alloc (.cells (zB k) 104)).alloc (.cells (zB r) 38)).alloc (.cells (q4 0) 51)
 have s0 := (((Str.refl w).alloc (.cells (zB k) 104)).alloc (.cells (zB r) 38)).alloc (.cells (q4 0) 51)
 try simp only [World.size_alloc] at h0
 have H1 := hide h0
 have S1 := hide s0
 clear h0 s0
 have hu8 := Tryd.underlying56
 have hul := Tryd.underlying128
 have hzd : ∀ w, (zeroValue 128).run Tryd.prog w = .ok (.agg (Sha64.bv Sha64.zD)) w := fun w => by kernel_rfl
 obtain ⟨ie, hie, hz5, hsz5, hby5⟩ := info_all infoRR
 have hue := Tryd.underlying106
 have Hie := hide hie
 have Hz5 := hide hz5
 have Hsz5 := hide hsz5
 have Hby5 := hide hby5
 clear hie hz5 hsz5 hby5 hz
 unfold maxLen at hm
 have hdl := Sha64.digest_len (bl r ++ bl k ++ ls.flatten)
 have HsDg : Hid ((Tryd.prog.info? 128).map (·.size) = some (Sha64.bv (Sha64.digest (bl r ++ bl k ++ ls.flatten))).size) := hide (by rw [Sha64.bv_size, hdl]; kernel_rfl)
 have HzDg : Hid ((Sha64.bv Sha64.zD).size = (Sha64.bv (Sha64.digest (bl r ++ bl k ++ ls.flatten))).size) := hide (by rw [Sha64.bv_size, Sha64.bv_size, hdl]; rfl)
 have HoDg := hide (Sha64.bv_one (Sha64.digest (bl r ++ bl k ++ ls.flatten)))
 have hfl : ([bl r, bl k] ++ ls).flatten = bl r ++ bl k ++ ls.flatten := by simp
 have Hfl := hide hfl
 have hfn : (bl r ++ bl k ++ ls.flatten).length ≤ 1000000000 := by
  rw [List.length_append, List.length_append, bl_len, bl_len]; omega
 have Hof := hide (fun v2 X (h1 : IsRows X v2 ([bl r, bl k] ++ ls)) h2 => Sha64.of_any v2 ([bl r, bl k] ++ ls) X h1 h2 (by rw [hfl]; exact hfn))
 rw [hfl] at Hof
 have hdl2 := hdl
 have Hred := hide (fun u X (h1 : IsBytes X u (Sha64.digest (bl r ++ bl k ++ ls.flatten))) h2 => reduce_any u _ X h1 h2 (by rw [hdl]; omega))
 change Hid (∀ u X, IsBytes X u (Sha64.digest (bl r ++ bl k ++ ls.flatten)) → TabO X → Calls Tryd.prog 26 #[u] X fun e w' => e = .returned (.agg (q4 (Sg.chalN (bl r ++ bl k ++ ls.flatten)))) ∧ Below X.heap.size X w') at Hred
 have Hdl := hide (fun X g (F : SP) t => dlLay (X := X) (g := g) (F := F) (t := t) hdl)
 have HlR := hide (fun X g (F : SP) t => zB_lay (X := X) (g := g) (F := F) (n := r) (t := t))
 have HlK := hide (fun X g (F : SP) t => zB_lay (X := X) (g := g) (F := F) (n := k) (t := t))
 have HT := hide hT
 have HO := hide hO
 have Hlay := hide hlay
 have Hin := hide hin
 have Hac := hide hac
 have Hvl := hide hvl
 have Hone := hide (rows_cells hvl hin)
 clear hlay hin hac hvl hT hO hlen hfl hfn hdl hdl2
 obtain ⟨HsKk, HoKk, HzKk⟩ := b3 (keInfo k) (zBOne k) (zBSize 0 k)
 obtain ⟨HsRr, HoRr, HzRr⟩ := b3 (zBInfo r) (zBOne r) (zBSize 0 r)
 obtain ⟨HsNn, HoNn, HzNn⟩ := b3 (nmInfo (Sg.chalN (bl r ++ bl k ++ ls.flatten))) (eOne (Sg.chalN (bl r ++ bl k ++ ls.flatten))) (eSize 0 (Sg.chalN (bl r ++ bl k ++ ls.flatten)))
 generalize zB k = Kk at *
 generalize zB r = Rr at *
 generalize q4 (Sg.chalN (bl r ++ bl k ++ ls.flatten)) = Nn at *
 generalize zB 0 = ZB at *
 generalize q4 0 = Z4 at *
 generalize hvDg : Sha64.bv (Sha64.digest (bl r ++ bl k ++ ls.flatten)) = Dg at *
 generalize Sha64.bv Sha64.zD = Zd at *
 generalize Sg.chalN (bl r ++ bl k ++ ls.flatten) = cN at *
 go_enter Tryd.func71, Tryd.ntmps71
 refine wp_seq_h fun K1 hK1 => ?_
 go_wp2_with fail
 refine hK1.out _ _ ?_
 clear hK1 K1
 generalize ((w.alloc (.cells Kk 104)).alloc (.cells Rr 38)).alloc (.cells Z4 51) = w1 at *
 go_wp2_with fail
 refine wp_tail 3 [isV (.slice (some ⟨w.heap.size + 1, 0, .none⟩) 32 32), isV (.slice (some ⟨w.heap.size, 0, .none⟩) 32 32), fun u X => (own 56 1 u 2 [.slice (some ⟨w.heap.size + 1, 0, .none⟩) 32 32, .slice (some ⟨w.heap.size, 0, .none⟩) 32 32] * (blk (w.heap.size + 1 + 1) (.cells Z4 51 (0, 0)) * (blk (w.heap.size + 1) (.cells Rr 38 (0, 0)) * (blk (w.heap.size) (.cells Kk 104 (0, 0)) * all w)))).on X] ?keep ?todo ?r106
 case keep => exact ⟨Keep.isV _, Keep.isV _, fun _ _ _ h k => SP.on.below h k, trivial⟩
 case todo =>
  refine ⟨?_, ?_, ?_, trivial⟩
  ·intro ev X hT hb hk hf
   have e0 : ev (.tmp 4) = .pointer (some ⟨w.heap.size + 1, 0, .none⟩) := hk.1
   exact OpOk.r (by simp [execOp, e0, hub, go_sem])
  ·intro ev X hT hb hk hf
   have e0 : ev (.tmp 3) = .pointer (some ⟨w.heap.size, 0, .none⟩) := hk.1
   exact OpOk.r (by simp [execOp, e0, huk, go_sem])
  ·intro ev X hT hb hk hf
   have e0 : ev (.tmp 9) = _ := hf.1
   have e1 : ev (.tmp 10) = _ := hf.2.1
   exact OpOk.run (v := .slice (some ⟨X.heap.size, 0, .none⟩) 2 2) (W' := X.alloc (.cells #[.slice (some ⟨w.heap.size + 1, 0, .none⟩) 32 32, .slice (some ⟨w.heap.size, 0, .none⟩) 32 32] 56)) (by simp [execOp, e0, e1, run_rr2]) ⟨own_new 56 1 2 [.slice (some ⟨w.heap.size + 1, 0, .none⟩) 32 32, .slice (some ⟨w.heap.size, 0, .none⟩) 32 32] (H1.out.below hT) rfl (by decide), (Below.refl X.heap.size X).alloc (Nat.le_refl _) _⟩
 intro w2 hX
 rintro _ rfl _ rfl v11 ho
 obtain ⟨H2, S2⟩ := nx H1.out S1.out hX
 clear hX H1 S1
 go_wp2
 refine Rest.done ?_
 have Ho := hide ho
 obtain ⟨oa, oc, rfl, _⟩ := own_value ho
 clear ho
 go_wp2_with (at_builtin; refine wpList_append_sp (F := (blk (w.heap.size + 1 + 1) (.cells Z4 51 (0, 0)) * (blk (w.heap.size + 1) (.cells Rr 38 (0, 0)) * (blk (w.heap.size) (.cells Kk 104 (0, 0)) * all w)))) rfl _ _ 106 rfl 56 ie _ 1 24 hue Hie.out Hz5.out Hsz5.out Hby5.out rfl (by decide) _ 2 [.slice (some ⟨w.heap.size + 1, 0, .none⟩) 32 32, .slice (some ⟨w.heap.size, 0, .none⟩) 32 32] rfl Ho.out a ls.length c vs rfl Hac.out (by rw [Hvl.out, Nat.mul_one]) (Lay.all Hlay.out (SP.on.right (SP.on.right (SP.on.right (SP.on.right Ho.out))))) Hone.out (by unfold maxLen; omega) (by omega) ?_; intro v2 w3 ho2 hs2)
 have H3 := hide ho2
 have S3 := hide (S2.out.trans hs2)
 clear ho2 hs2 Ho S2 H2
 have HA := hide (all_below H3.out.right.right.right.right S3.out)
 have hR := Hof.out v2 w3 (rows_own H3.out (by simp [Hvl.out]) (rows_cat rfl (rows_two (HlR.out _ _ _ _ (SP.on.right (SP.on.right H3.out))) (HlK.out _ _ _ _ (SP.on.right (SP.on.right (SP.on.right H3.out))))) (fun i u l e1 e2 => (Hin.out i u l e1 e2).below HA.out))) (HT.out.below HA.out)
 refine hR.mono ?_
 clear hR
 rintro e w4 ⟨rfl, hB⟩
 obtain ⟨H4, S4⟩ := nx (H3.out.right) S3.out hB
 clear hB H3 S3 HA
 obtain ⟨gN, gM, H5, S5⟩ := newV H4.out S4.out Zd Dg 128
 go_wp2_with (first
  | (refine wS gN HsDg HzDg HoDg ?_))
 generalize (w4.alloc (.cells Zd 128)).setRow w4.heap.size Dg = w5 at *
 clear gN gM H4 S4
 generalize w4.heap.size = p8 at *
 have HDl := Hdl.out w5 p8 _ _ H5.out
 refine (Hred.out _ _ HDl (HO.out.below (all_below H5.out.right.right.right.right S5.out))).mono ?_
 rintro e w6 ⟨rfl, hB⟩
 obtain ⟨H6, S6⟩ := nx H5.out S5.out hB
 clear hB H5 S5
 have gR := on_blk_mul H6.out.right
 have HB := hide (all_below H6.out.right.right.right.right S6.out)
 go_wp2_with (first
  | (refine wS gR HsNn HzNn HoNn ?_))
 exact retR Tryd.results71 gR husn HsNn.out rfl HB.out (by omega)
end Cv
end Go.Proofs.YtbplbdnofobbiaaDoor
