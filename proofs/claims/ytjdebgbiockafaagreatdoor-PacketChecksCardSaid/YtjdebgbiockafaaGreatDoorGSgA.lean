/- A part. -/
import Derived.Test.YtjdebgbiockafaaGreatDoorGCv3
import Derived.Laws.CopyOwn
import Derived.Test.YtjdebgbiockafaaGreatDoorGRef
set_option linter.unusedVariables false
set_option linter.unusedSimpArgs false
set_option maxRecDepth 100000
set_option maxHeartbeats 8000000
namespace Go.Proofs.YtjdebgbiockafaaGreatDoor
namespace Sg
open Fe
def chalN (l : List UInt8) : Nat := leN (Sha64.digest l) % O6
def verB (key sig m : List UInt8) : Bool := Ed.verify key (sig.take 32) (sig.drop 32) (chalN (sig.take 32 ++ key ++ m))
def clampL (h : List UInt8) : List UInt8 := (h.set 0 (h.getD 0 0 &&& 248)).set 31 ((h.getD 31 0 &&& 63) + 64)
def secN (s : List UInt8) : Nat := leN ((clampL (Sha64.digest s)).take 32)
def secR (s : List UInt8) : List UInt8 := (Sha64.digest s).drop 32
def pubP (s : List UInt8) : Ed.Pt := Ed.Pt.base.mul (secN s)
def pubB (s : List UInt8) : List UInt8 := Ed.enc (pubP s)
def rN (s m : List UInt8) : Nat := chalN (secR s ++ m)
def sigP (s m : List UInt8) : Ed.Pt := Ed.Pt.base.mul (rN s m)
def sigK (s m : List UInt8) : Nat := chalN (Ed.enc (sigP s m) ++ pubB s ++ m)
def sigT (s m : List UInt8) : Nat := (rN s m + sigK s m * (secN s % O6) % O6) % O6
theorem O6_pos : 0 < O6 := by decide
theorem O6_32 : O6 < 256 ^ 32 := by decide +kernel
theorem chalN_lt (l : List UInt8) : chalN l < O6 := Nat.mod_lt _ O6_pos
theorem rN_lt (s m : List UInt8) : rN s m < O6 := chalN_lt _
theorem sigT_lt (s m : List UInt8) : sigT s m < O6 := Nat.mod_lt _ O6_pos
theorem clampL_len (h : List UInt8) : (clampL h).length = h.length := by simp [clampL]
theorem secN_lt (s : List UInt8) : secN s < 256 ^ 32 := by
 have h := leN_lt ((clampL (Sha64.digest s)).take 32)
 have e : ((clampL (Sha64.digest s)).take 32).length = 32 := by rw [List.length_take, clampL_len, Sha64.digest_len]; rfl
 rw [e] at h
 exact h
theorem secR_len (s : List UInt8) : (secR s).length = 32 := by unfold secR; rw [List.length_drop, Sha64.digest_len]
end Sg
end Go.Proofs.YtjdebgbiockafaaGreatDoor
namespace Go.Proofs.YtjdebgbiockafaaGreatDoor
namespace Cv
open Fe
open Go.ChangeShapes Go.WideShapes Go.ChangeAt Go.RowKit
theorem keInfo (n : Nat) : (Tryz.prog.info? 29).map (·.size) = some (zB n).size := by
 rw [show (zB n).size = 32 by simp [zB, zb, vbs, bl_len]]; kernel_rfl
theorem keZero (w : World) : (zeroValue 29).run Tryz.prog w = .ok (.agg (zB 0)) w := by unfold zB; rw [bl_0]; kernel_rfl
theorem run_rr2 (a b : Option Addr) (n c m d : Nat) (w : World) : (Instr.buildSlice 94 2 #[(0, .slice a n c), (1, .slice b m d)]).run Tryz.prog w = .ok (.slice (some ⟨w.heap.size, 0, .none⟩) 2 2) (w.alloc (.cells #[.slice a n c, .slice b m d] 35)) := by kernel_rfl
theorem rows_own {F : SP} {X : World} {e : TypeId} {v : Value} {n : Nat} {xs : List Value} {ls : List (List UInt8)} (h : (own e 1 v n xs * F).on X) (hl : xs.length = ls.length)
  (hin : ∀ (i : Nat) (u : Value) (l : List UInt8), xs[i]? = some u → ls[i]? = some l → IsBytes X u l) : IsRows X v ls := by
 have hn := (own_cases h).1
 obtain ⟨a, c, rfl, h2, h3, h4, h5⟩ := own_value h
 obtain rfl : n = ls.length := by omega
 exact ⟨a, c, xs, rfl, h2, h3, h4, hl, hin⟩
theorem rows_cat {X : World} {us vs : List Value} {ks ls : List (List UInt8)} (h1 : us.length = ks.length)
  (hu : ∀ (i : Nat) (u : Value) (l : List UInt8), us[i]? = some u → ks[i]? = some l → IsBytes X u l) (hv : ∀ (i : Nat) (u : Value) (l : List UInt8), vs[i]? = some u → ls[i]? = some l → IsBytes X u l)
  (i : Nat) (u : Value) (l : List UInt8) (e1 : (us ++ vs)[i]? = some u) (e2 : (ks ++ ls)[i]? = some l) : IsBytes X u l := by
 rw [List.getElem?_append] at e1 e2
 rw [h1] at e1
 by_cases h : i < ks.length
 ·rw [if_pos h] at e1 e2; exact hu i u l e1 e2
 rw [if_neg h] at e1 e2; exact hv _ u l e1 e2
theorem rows_two {X : World} {u1 u2 : Value} {l1 l2 : List UInt8} (h1 : IsBytes X u1 l1) (h2 : IsBytes X u2 l2) (i : Nat) (u : Value) (l : List UInt8) (e1 : [u1, u2][i]? = some u) (e2 : [l1, l2][i]? = some l) : IsBytes X u l := by
 match i, e1, e2 with
 | 0, e1, e2 => simp at e1 e2; subst e1; subst e2; exact h1
 | 1, e1, e2 => simp at e1 e2; subst e1; subst e2; exact h2
 | i + 2, e1, _ => simp at e1
theorem rows_cells {X : World} {vs : List Value} {ls : List (List UInt8)} (hl : vs.length = ls.length) (hv : ∀ (i : Nat) (u : Value) (l : List UInt8), vs[i]? = some u → ls[i]? = some l → IsBytes X u l) :
  ∀ u ∈ vs, u.oneCell' = true := by
 intro u hu
 obtain ⟨i, hi, rfl⟩ := List.mem_iff_getElem.1 hu
 obtain ⟨a, c, e, _⟩ := hv i vs[i] ls[i] (List.getElem?_eq_getElem hi) (List.getElem?_eq_getElem (by omega))
 rw [e]; rfl
theorem zB_lay {F : SP} {X : World} {g n : Nat} {t : TypeId} (h : (blk g (.cells (zB n) t (0, 0)) * F).on X) : IsBytes X (.slice (some ⟨g, 0, .none⟩) 32 32) (bl n) := by
 have := zb_lay (l := bl n) (on_blk_mul h) (by rw [bl_len]; unfold maxLen; omega)
 rwa [bl_len] at this
theorem dlLay {F : SP} {X : World} {g : Nat} {l : List UInt8} {t : TypeId} (hl : l.length = 64) (h : (blk g (.cells (Sha64.bv l) t (0, 0)) * F).on X) : IsBytes X (.slice (some ⟨g, 0, .none⟩) 64 64) l := by
 have := zb_lay (l := l) (on_blk_mul h) (by rw [hl]; unfold maxLen; omega)
 rwa [hl] at this
def gC (r s : Nat) : Array Value := zb (bl r ++ bl s)
theorem gC_len (r s : Nat) : (bl r ++ bl s).length = 64 := by rw [List.length_append, bl_len, bl_len]
theorem gC_sz (r s : Nat) : (gC r s).size = 64 := by
 have h := gC_len r s
 show (zb (bl r ++ bl s)).size = 64
 rw [show (zb (bl r ++ bl s)).size = (bl r ++ bl s).length by simp [zb, vbs]]; exact h
theorem gOne (r s : Nat) : (gC r s).all (·.oneCell') = true := zb_one _
theorem gSize (a b r s : Nat) : (gC a b).size = (gC r s).size := by rw [gC_sz, gC_sz]
theorem g0 : gC 0 0 = zb (List.replicate 64 0) := by
 unfold gC
 rw [bl_0]; rfl
theorem infoRR : (Tryz.prog.info? 35).map (fun i => (i.zero, i.size, i.bytes)) = some (some (.slice Option.none 0 0), 1, 24) := by kernel_rfl
theorem info_all {P : Program} {t : TypeId} {z : Value} {s b : Nat} (h : (P.info? t).map (fun i => (i.zero, i.size, i.bytes)) = some (some z, s, b)) : ∃ i, P.info? t = some i ∧ i.zero = some z ∧ i.size = s ∧ i.bytes = b := by
 cases hq : P.info? t with
 | none => simp [hq] at h
 | some i => simp [hq] at h; exact ⟨i, rfl, h⟩
theorem schal_any (k r : Nat) (v : Value) (ls : List (List UInt8)) (w : World) (h : IsRows w v ls) (hz : ∀ n c, v = .slice Option.none n c → c = 0) (hT : Sha64.Tab w) (hO : TabO w) (hls : ls.length ≤ 1000) (hlen : ls.flatten.length ≤ 1000000) :
  Calls Tryz.prog 79 #[.agg (zB k), .agg (zB r), v] w fun e w' => e = .returned (.agg (q4 (Sg.chalN (bl r ++ bl k ++ ls.flatten)))) ∧ Below w.heap.size w w' := by
 have Hr := hide h
 obtain ⟨a, c, vs, rfl, hc, hm, hlay, hvl, hin⟩ := h
 have hac : a = Option.none → c = 0 := fun e => hz _ _ (by rw [e])
 have huk := Tryz.underlying29
 have hub := Tryz.underlying22
 have husn := Tryz.underlying131
 have hzK := keZero
 have hzB := zBZero
 have hzC := nmZero
 have h0 := (((on_all w).alloc (.cells (zB k) 29)).alloc (.cells (zB r) 22)).alloc (.cells (q4 0) 131)
 have s0 := (((Str.refl w).alloc (.cells (zB k) 29)).alloc (.cells (zB r) 22)).alloc (.cells (q4 0) 131)
 try simp only [World.size_alloc] at h0
 have H1 := hide h0
 have S1 := hide s0
 clear h0 s0
 have hu8 := Tryz.underlying35
 have hul := Tryz.underlying147
 have hzd : ∀ w, (zeroValue 147).run Tryz.prog w = .ok (.agg (Sha64.bv Sha64.zD)) w := fun w => by kernel_rfl
 obtain ⟨ie, hie, hz5, hsz5, hby5⟩ := info_all infoRR
 have hue := Tryz.underlying94
 have Hie := hide hie
 have Hz5 := hide hz5
 have Hsz5 := hide hsz5
 have Hby5 := hide hby5
 clear hie hz5 hsz5 hby5 hz
 unfold maxLen at hm
 have hdl := Sha64.digest_len (bl r ++ bl k ++ ls.flatten)
 have HsDg : Hid ((Tryz.prog.info? 147).map (·.size) = some (Sha64.bv (Sha64.digest (bl r ++ bl k ++ ls.flatten))).size) := hide (by rw [Sha64.bv_size, hdl]; kernel_rfl)
 have HzDg : Hid ((Sha64.bv Sha64.zD).size = (Sha64.bv (Sha64.digest (bl r ++ bl k ++ ls.flatten))).size) := hide (by rw [Sha64.bv_size, Sha64.bv_size, hdl]; rfl)
 have HoDg := hide (Sha64.bv_one (Sha64.digest (bl r ++ bl k ++ ls.flatten)))
 have hfl : ([bl r, bl k] ++ ls).flatten = bl r ++ bl k ++ ls.flatten := by simp
 have Hfl := hide hfl
 have hfn : (bl r ++ bl k ++ ls.flatten).length ≤ 1000000000 := by
  rw [List.length_append, List.length_append, bl_len, bl_len]; omega
 have Hof := hide (fun v2 X (h1 : IsRows X v2 ([bl r, bl k] ++ ls)) h2 => Sha64.of_any v2 ([bl r, bl k] ++ ls) X h1 h2 (by rw [hfl]; exact hfn))
 rw [hfl] at Hof
 have hdl2 := hdl
 have Hred := hide (fun u X (h1 : IsBytes X u (Sha64.digest (bl r ++ bl k ++ ls.flatten))) h2 => reduce_any u _ X h1 h2 (by rw [hdl]; omega))
 change Hid (∀ u X, IsBytes X u (Sha64.digest (bl r ++ bl k ++ ls.flatten)) → TabO X → Calls Tryz.prog 90 #[u] X fun e w' => e = .returned (.agg (q4 (Sg.chalN (bl r ++ bl k ++ ls.flatten)))) ∧ Below X.heap.size X w') at Hred
 have Hdl := hide (fun X g (F : SP) t => dlLay (X := X) (g := g) (F := F) (t := t) hdl)
 have HlR := hide (fun X g (F : SP) t => zB_lay (X := X) (g := g) (F := F) (n := r) (t := t))
 have HlK := hide (fun X g (F : SP) t => zB_lay (X := X) (g := g) (F := F) (n := k) (t := t))
 have HT := hide hT
 have HO := hide hO
 have Hlay := hide hlay
 have Hin := hide hin
 have Hac := hide hac
 have Hvl := hide hvl
 have Hone := hide (rows_cells hvl hin)
 clear hlay hin hac hvl hT hO hlen hfl hfn hdl hdl2
 obtain ⟨HsKk, HoKk, HzKk⟩ := b3 (keInfo k) (zBOne k) (zBSize 0 k)
 obtain ⟨HsRr, HoRr, HzRr⟩ := b3 (zBInfo r) (zBOne r) (zBSize 0 r)
 obtain ⟨HsNn, HoNn, HzNn⟩ := b3 (nmInfo (Sg.chalN (bl r ++ bl k ++ ls.flatten))) (eOne (Sg.chalN (bl r ++ bl k ++ ls.flatten))) (eSize 0 (Sg.chalN (bl r ++ bl k ++ ls.flatten)))
 generalize zB k = Kk at *
 generalize zB r = Rr at *
 generalize q4 (Sg.chalN (bl r ++ bl k ++ ls.flatten)) = Nn at *
 generalize zB 0 = ZB at *
 generalize q4 0 = Z4 at *
 generalize hvDg : Sha64.bv (Sha64.digest (bl r ++ bl k ++ ls.flatten)) = Dg at *
 generalize Sha64.bv Sha64.zD = Zd at *
 generalize Sg.chalN (bl r ++ bl k ++ ls.flatten) = cN at *
 go_enter Tryz.func79, Tryz.ntmps79
 refine wp_seq_h fun K1 hK1 => ?_
 go_wp2
 refine hK1.out _ _ ?_
 clear hK1 K1
 generalize ((w.alloc (.cells Kk 29)).alloc (.cells Rr 22)).alloc (.cells Z4 131) = w1 at *
 go_wp2_with fail
 refine wp_tail 3 [isV (.slice (some ⟨w.heap.size + 1, 0, .none⟩) 32 32), isV (.slice (some ⟨w.heap.size, 0, .none⟩) 32 32), fun u X => (own 35 1 u 2 [.slice (some ⟨w.heap.size + 1, 0, .none⟩) 32 32, .slice (some ⟨w.heap.size, 0, .none⟩) 32 32] * (blk (w.heap.size + 1 + 1) (.cells Z4 131 (0, 0)) * (blk (w.heap.size + 1) (.cells Rr 22 (0, 0)) * (blk (w.heap.size) (.cells Kk 29 (0, 0)) * all w)))).on X] ?t106 ?r121 (hk := ?keep)
 case keep => exact ⟨Keep.isV _, Keep.isV _, fun _ _ _ h k => SP.on.below h k, trivial⟩
 case' t106 => refine ⟨?_, ?_, ?_, trivial⟩ <;> intro ev X hT hb hk hf
 ·exact OpOk.r (by simp [execOp, fV ev 4 (.pointer (some ⟨w.heap.size + 1, 0, .none⟩)) hk.1, hub, go_sem])
 ·exact OpOk.r (by simp [execOp, fV ev 3 (.pointer (some ⟨w.heap.size, 0, .none⟩)) hk.1, huk, go_sem])
 ·exact OpOk.run (v := .slice (some ⟨X.heap.size, 0, .none⟩) 2 2) (W' := X.alloc (.cells #[.slice (some ⟨w.heap.size + 1, 0, .none⟩) 32 32, .slice (some ⟨w.heap.size, 0, .none⟩) 32 32] 35)) (by simp [execOp, fX ev 9 hf.1, fX ev 10 hf.2.1, run_rr2]) ⟨own_new 35 1 2 [.slice (some ⟨w.heap.size + 1, 0, .none⟩) 32 32, .slice (some ⟨w.heap.size, 0, .none⟩) 32 32] (H1.out.below hT) rfl (by decide), (Below.refl X.heap.size X).alloc (Nat.le_refl _) _⟩
 intro w2 hX
 rintro _ rfl _ rfl v11 ho
 obtain ⟨H2, S2⟩ := nx H1.out S1.out hX
 clear hX H1 S1
 go_wp2
 refine Rest.done ?_
 have Ho := hide ho
 obtain ⟨oa, oc, rfl, _⟩ := own_value ho
 clear ho
 go_wp2_with (at_builtin; refine wpList_append_sp (F := (blk (w.heap.size + 1 + 1) (.cells Z4 131 (0, 0)) * (blk (w.heap.size + 1) (.cells Rr 22 (0, 0)) * (blk (w.heap.size) (.cells Kk 29 (0, 0)) * all w)))) rfl _ _ 94 rfl 35 ie _ 1 24 hue Hie.out Hz5.out Hsz5.out Hby5.out rfl (by decide) _ 2 [.slice (some ⟨w.heap.size + 1, 0, .none⟩) 32 32, .slice (some ⟨w.heap.size, 0, .none⟩) 32 32] rfl Ho.out a ls.length c vs rfl Hac.out (by rw [Hvl.out, Nat.mul_one]) (Lay.all Hlay.out (SP.on.right (SP.on.right (SP.on.right (SP.on.right Ho.out))))) Hone.out (by unfold maxLen; omega) (by omega) ?_; intro v2 w3 ho2 hs2)
 have H3 := hide ho2
 have S3 := hide (S2.out.trans hs2)
 clear ho2 hs2 Ho S2 H2
 have HA := hide (all_below H3.out.right.right.right.right S3.out)
 have hR := Hof.out v2 w3 (rows_own H3.out (by simp [Hvl.out]) (rows_cat rfl (rows_two (HlR.out _ _ _ _ (SP.on.right (SP.on.right H3.out))) (HlK.out _ _ _ _ (SP.on.right (SP.on.right (SP.on.right H3.out))))) (fun i u l e1 e2 => (Hin.out i u l e1 e2).below HA.out))) (HT.out.below HA.out)
 refine hR.mono ?_
 clear hR
 rintro e w4 ⟨rfl, hB⟩
 obtain ⟨H4, S4⟩ := nx (H3.out.right) S3.out hB
 clear hB H3 S3 HA
 obtain ⟨gN, gM, H5, S5⟩ := newV H4.out S4.out Zd Dg 147
 go_wp2_with (first
  | (refine wS gN HsDg HzDg HoDg ?_))
 generalize (w4.alloc (.cells Zd 147)).setRow w4.heap.size Dg = w5 at *
 clear gN gM H4 S4
 generalize w4.heap.size = p8 at *
 have HDl := Hdl.out w5 p8 _ _ H5.out
 refine (Hred.out _ _ HDl (HO.out.below (all_below H5.out.right.right.right.right S5.out))).mono ?_
 rintro e w6 ⟨rfl, hB⟩
 obtain ⟨H6, S6⟩ := nx H5.out S5.out hB
 clear hB H5 S5
 have gR := on_blk_mul H6.out.right
 have HB := hide (all_below H6.out.right.right.right.right S6.out)
 go_wp2_with (first
  | (refine wS gR HsNn HzNn HoNn ?_))
 exact retR Tryz.results79 gR husn HsNn.out rfl HB.out (by omega)
theorem gInfo (r s : Nat) : (Tryz.prog.info? 26).map (·.size) = some (gC r s).size := by rw [gC_sz]; kernel_rfl
theorem gZero (w : World) : (zeroValue 26).run Tryz.prog w = .ok (.agg (gC 0 0)) w := by rw [g0]; kernel_rfl
theorem gLay {F : SP} {X : World} {g r s : Nat} {t : TypeId} (h : (blk g (.cells (gC r s) t (0, 0)) * F).on X) : Lay X (some ⟨g, 0, .none⟩) (vbs (bl r)) ∧ Lay X (some ⟨g, 32, .none⟩) (vbs (bl s)) := by
 have e := on_blk_mul h
 have hL : Lay X (some ⟨g, 0, .none⟩) (vbs (bl r ++ bl s)) := by
  obtain ⟨a, c, e1, _, _, e4, _⟩ := zb_lay (l := bl r ++ bl s) e (by rw [gC_len]; unfold maxLen; omega)
  injection e1 with e1
  rw [e1]; exact e4
 have l1 := hL.take 32
 have l2 := hL.drop 32
 have h1 : (vbs (bl r)).length = 32 := by rw [vbl, bl_len]
 rw [show vbs (bl r ++ bl s) = vbs (bl r) ++ vbs (bl s) by simp] at l1 l2
 rw [List.take_append_of_le_length (by omega), List.take_of_length_le (by omega)] at l1
 rw [List.drop_append_of_le_length (by omega), List.drop_of_length_le (by omega), List.nil_append] at l2
 exact ⟨l1, by simpa using l2⟩
theorem wpList_copy_zB {w : World} {ops : Array Oper} {rest : List Oper} {o : Oper} {a : Act} {Q : Exit → Act → World → Prop} (hgd : o.guard = Option.none) (d s : Operand)
  (ho : o.op = .call { callee := .builtin .copy, args := #[d, s], argTypes := #[35, 35] }) (g dc c b off : Nat) (hd : a.eval d = .slice (some ⟨g, 0, .none⟩) 32 dc) (hs : a.eval s = .slice (some ⟨b, off, .none⟩) 32 c)
  (m : Nat) (Z : Array Value) (t : TypeId) (hz : Z.size = 32) (hg : w.heap[g]? = some (.cells Z t (0, 0))) (hl : Lay w (some ⟨b, off, .none⟩) (vbs (bl m)))
  (h : wpList Tryz.prog ops Q rest (a.put o.dst (goInt 32)) (w.setRow g (zB m))) : wpList Tryz.prog ops Q (o :: rest) a w := by
 have hlen : (vbs (bl m)).length = 32 := by rw [vbl, bl_len]
 refine wpList_copy_own hgd d s _ _ ho 5 Tryz.underlying35 (by kernel_rfl) g 0 32 dc ⟨b, off, .none⟩ 32 c hd hs Z t hg (vbs (bl m)) hlen ?_ (by omega) (vbs_one _) ?_
 ·intro j v hv
  have := Lay.cell hl j hv
  have ea : (⟨b, off, .none⟩ : Addr).add j = ⟨b, off + j, .none⟩ := by unfold Addr.add; split <;> simp_all
  rw [ea]; exact this
 have e1 : (Z.toList.take 0 ++ (vbs (bl m) ++ Z.toList.drop (0 + (vbs (bl m)).length))).toArray = zB m := by
  rw [List.take_zero, List.nil_append, List.drop_of_length_le (by rw [hlen, Array.length_toList]; omega), List.append_nil]; rfl
 rw [e1, hlen]
 exact h
theorem decV_cases (n : Nat) : ∃ (A : Array Value) (e : Int), decV n = .tuple #[.agg A, .int .i64 e] ∧ (Tryz.prog.info? 128).map (·.size) = some A.size ∧ A.all (·.oneCell') = true ∧ (pC 0 0).size = A.size ∧
  ((e = 0 ∧ ∃ p, Ed.decPt (bl n) = some p ∧ A = ptC p) ∨ (e = 7 ∧ Ed.decPt (bl n) = Option.none)) := by
 unfold decV
 cases h : Ed.decPt (bl n) with
 | none => exact ⟨_, _, rfl, pInfo 0 0, pC_one 0 0, rfl, .inr ⟨rfl, rfl⟩⟩
 | some p => exact ⟨_, _, rfl, ptInfo p, ptOne p, ptZ p, .inl ⟨rfl, p, rfl, rfl⟩⟩
theorem decN_cases (s : Nat) (hs : s < 256 ^ 32) : ∃ (A : Array Value) (e : Int), decN (bl s) = .tuple #[.agg A, .int .i64 e] ∧ (Tryz.prog.info? 131).map (·.size) = some A.size ∧ A.all (·.oneCell') = true ∧ (q4 0).size = A.size ∧
  ((e = 0 ∧ s < O6 ∧ A = q4 s) ∨ (e = 7 ∧ ¬ s < O6)) := by
 unfold decN
 rw [leN_bl s hs]
 by_cases h : s < O6
 ·rw [if_pos h]; exact ⟨_, _, rfl, nmInfo s, eOne s, eSize 0 s, .inl ⟨rfl, h, rfl⟩⟩
 rw [if_neg h]; exact ⟨_, _, rfl, nmInfo 0, eOne 0, rfl, .inr ⟨rfl, h⟩⟩
def verE (b : Bool) : Int := if b then 0 else 9
theorem ver_take (r s : Nat) : (bl r ++ bl s).take 32 = bl r ∧ (bl r ++ bl s).drop 32 = bl s := by
 have h := bl_len r
 rw [List.take_append_of_le_length (by omega), List.take_of_length_le (by omega), List.drop_append_of_le_length (by omega), List.drop_of_length_le (by omega)]
 exact ⟨rfl, rfl⟩
theorem ver_no1 (k r s : Nat) (m : List UInt8) (h : Ed.decPt (bl k) = Option.none) : Sg.verB (bl k) (bl r ++ bl s) m = false := by
 unfold Sg.verB Ed.verify
 rw [h]
theorem ver_no2 (k r s : Nat) (m : List UInt8) (h : Ed.decPt (bl r) = Option.none) : Sg.verB (bl k) (bl r ++ bl s) m = false := by
 unfold Sg.verB Ed.verify
 rw [(ver_take r s).1, h]
 cases Ed.decPt (bl k) <;> rfl
theorem ver_no3 (k r s : Nat) (hs : s < 256 ^ 32) (m : List UInt8) (h : ¬ s < O6) : Sg.verB (bl k) (bl r ++ bl s) m = false := by
 unfold Sg.verB Ed.verify
 rw [(ver_take r s).1, (ver_take r s).2, leN_bl s hs, decide_eq_false h]
 cases Ed.decPt (bl k) <;> cases Ed.decPt (bl r) <;> rfl
theorem ver_is (k r s : Nat) (hs : s < 256 ^ 32) (m : List UInt8) (a p : Ed.Pt) (h1 : Ed.decPt (bl k) = some a) (h2 : Ed.decPt (bl r) = some p) (h : s < O6) :
  Sg.verB (bl k) (bl r ++ bl s) m = decide (Ed.Pt.base.mul s = p.sum (a.mul (Sg.chalN (bl r ++ bl k ++ m)))) := by
 unfold Sg.verB Ed.verify
 rw [(ver_take r s).1, (ver_take r s).2, h1, h2]
 dsimp only
 rw [leN_bl s hs, decide_eq_true h, Bool.true_and]
 rfl
theorem O6_256 : O6 < 2 ^ 256 := by decide +kernel
theorem sverify_any (k r s : Nat) (hk : k < 256 ^ 32) (hr : r < 256 ^ 32) (hs : s < 256 ^ 32) (v : Value) (ls : List (List UInt8)) (w : World) (h : IsRows w v ls) (hz : ∀ n c, v = .slice Option.none n c → c = 0) (hT6 : Sha64.Tab w) (hT : TabC w) (hD : TabD w) (hO : TabO w) (hls : ls.length ≤ 1000) (hlen : ls.flatten.length ≤ 1000000) :
  Calls Tryz.prog 53 #[.agg (zB k), .agg (gC r s), v] w fun e w' => e = .returned (.int .i64 (verE (Sg.verB (bl k) (bl r ++ bl s) ls.flatten))) ∧ Below w.heap.size w w' := by
 have huk := Tryz.underlying29
 have hug := Tryz.underlying26
 have hub := Tryz.underlying22
 have husn := Tryz.underlying131
 have hup := Tryz.underlying128
 have hzK := keZero
 have hzG := gZero
 have hzB := zBZero
 have hzC := nmZero
 have hzP := pZero
 have h0 := ((on_all w).alloc (.cells (zB k) 29)).alloc (.cells (gC r s) 26)
 have s0 := ((Str.refl w).alloc (.cells (zB k) 29)).alloc (.cells (gC r s) 26)
 try simp only [World.size_alloc] at h0
 have H1 := hide h0
 have S1 := hide s0
 clear h0 s0
 have hu8 := Tryz.underlying35
 have hTab := hide hT
 have hTabD := hide hD
 have h1000 := Sg.chalN_lt (bl r ++ bl k ++ ls.flatten)
 have hO2 := O6_256
 have hn1 := fun h => ver_no1 k r s ls.flatten h
 have hn2 := fun h => ver_no2 k r s ls.flatten h
 have hn3 := fun h => ver_no3 k r s hs ls.flatten h
 have hv1 := fun a p h1 h2 h => ver_is k r s hs ls.flatten a p h1 h2 h
 have hk1 := hide (fun X h1 h2 => pdecode_any k hk X h1 h2)
 have hk2 := hide (fun X h1 h2 => pdecode_any r hr X h1 h2)
 have k3 := fun X h1 => _root_.Go.Proofs.YtjdebgbiockafaaGreatDoor.decode_any (bl s) (bl_len s) X h1
 change ∀ X, TabO X → Calls Tryz.prog 78 #[.agg (zB s)] X fun e w' => e = .returned (decN (bl s)) ∧ Below X.heap.size X w' at k3
 have hk3 := hide k3
 have hk4 := hide (fun X (h1 : Below w.heap.size w X) => schal_any k r v ls X (h.below h1) hz (hT6.below h1) (hO.below h1) hls hlen)
 have hk5 := hide (fun X (h1 : Below w.heap.size w X) => base_pt X (hT.below h1))
 have hkt := hide (fun p n X (hn : n < O6) (h1 : Below w.heap.size w X) => ptimes_pt p n (Nat.lt_trans hn hO2) X (hT.below h1))
 have hka := hide (fun p q u X h2 (h1 : Below w.heap.size w X) => padd_2 p q u X h2 (hT.below h1))
 have hks := hide (fun p q X => psame_pt p q X)
 have hpp := hide (fun p q X => run_pp2 p q X)
 have HTo := hide hO
 have hHB : Hid (Below w.heap.size w w) := hide (Below.refl _ _)
 have Hpi := hide ptInfo
 have Hpo := hide ptOne
 have Hpz := hide ptZ
 have hc5 := hide (fun p q (X : World) => (IsPs.of (heap_alloc_new X (.cells (psC [ptN p, ptN q]) 128)) : IsPs (X.alloc (.cells (psC [ptN p, ptN q]) 128)) (.slice (some ⟨X.heap.size, 0, .none⟩) 2 2) [ptN p, ptN q]))
 obtain ⟨PA, eA, edA, sA, oA, zA, cA⟩ := decV_cases k
 obtain ⟨PR, eR, edR, sR, oR, zR, cR⟩ := decV_cases r
 obtain ⟨SV, eS, edS, sS, oS, zS, cS⟩ := decN_cases s hs
 rw [edA] at hk1
 rw [edR] at hk2
 rw [edS] at hk3
 have HsPA := hide sA
 have HoPA := hide oA
 have HzPA := hide zA
 have HsPR := hide sR
 have HoPR := hide oR
 have HzPR := hide zR
 have HsSV := hide sS
 have HoSV := hide oS
 have HzSV := hide zS
 have HcA := hide cA
 have HcR := hide cR
 have HcS := hide cS
 have HgL := hide (fun X g (F : SP) t => gLay (X := X) (g := g) (F := F) (r := r) (s := s) (t := t))
 have HzB32 : Hid ((zB 0).size = 32) := hide (by rw [show (zB 0).size = (bl 0).length by simp [zB, zb, vbs], bl_len])
 have Hcl := hide h1000
 obtain ⟨vb0, hvb⟩ : ∃ b, b = Sg.verB (bl k) (bl r ++ bl s) ls.flatten := ⟨_, rfl⟩
 rw [← hvb] at hn1 hn2 hn3 hv1
 have Hn1 := hide hn1
 have Hn2 := hide hn2
 have Hn3 := hide hn3
 have Hv1 := hide hv1
 clear hn1 hn2 hn3 hv1 k3 edA sA oA zA cA edR sR oR zR cR edS sS oS zS cS h1000 hO2 hk hr hs hz hlen h
 rw [← hvb]
 clear hvb
 obtain ⟨HsKk, HoKk, HzKk⟩ := b3 (keInfo k) (zBOne k) (zBSize 0 k)
 obtain ⟨HsGg, HoGg, HzGg⟩ := b3 (gInfo r s) (gOne r s) (gSize 0 0 r s)
 obtain ⟨HsRr, HoRr, HzRr⟩ := b3 (zBInfo r) (zBOne r) (zBSize 0 r)
 obtain ⟨HsSs, HoSs, HzSs⟩ := b3 (zBInfo s) (zBOne s) (zBSize 0 s)
 obtain ⟨HsCc, HoCc, HzCc⟩ := b3 (nmInfo (Sg.chalN (bl r ++ bl k ++ ls.flatten))) (eOne (Sg.chalN (bl r ++ bl k ++ ls.flatten))) (eSize 0 (Sg.chalN (bl r ++ bl k ++ ls.flatten)))
 generalize zB k = Kk at *
 generalize hvGg : gC r s = Gg at *
 have hvGg := hide hvGg
 generalize hvRr : zB r = Rr at *
 have hvRr := hide hvRr
 generalize hvSs : zB s = Ss at *
 have hvSs := hide hvSs
 generalize hvCc : q4 (Sg.chalN (bl r ++ bl k ++ ls.flatten)) = Cc at *
 have hvCc := hide hvCc
 generalize zB 0 = ZB at *
 generalize gC 0 0 = ZG at *
 generalize q4 0 = Z4 at *
 generalize pC 0 0 = Zp at *
 generalize Sg.chalN (bl r ++ bl k ++ ls.flatten) = cN at *
 go_enter Tryz.func53, Tryz.ntmps53
 refine wp_seq_h fun K1 hK1 => ?_
 go_wp2
 refine hK1.out _ _ ?_
 clear hK1 K1
 generalize (w.alloc (.cells Kk 29)).alloc (.cells Gg 26) = w1 at *
 refine wp_seq_h fun K2 hK2 => ?_
 have h1 := H1.out.alloc (.cells ZB 22)
 have h2 := h1.alloc (.cells ZB 22)
 simp only [World.size_alloc] at h2
 have H2 := hide h2
 have S2 := hide ((S1.out.alloc (.cells ZB 22)).alloc (.cells ZB 22))
 clear h1 h2 H1 S1
 go_wp2
 refine hK2.out _ _ ?_
 clear hK2 K2
 generalize (w1.alloc (.cells ZB 22)).alloc (.cells ZB 22) = w2 at *
 generalize w1.heap.size = p7 at *
 go_wp2_with fail
 refine wp_tail 2 (iv [.slice (some ⟨p7, 0, .none⟩) 32 32, .slice (some ⟨w.heap.size + 1, 0, .none⟩) 32 64]) ?t107 ?r122
 case' t107 => refine ⟨?_, ?_, trivial⟩ <;> intro ev X hT hb hk hf
 ·exact OpOk.r (by simp [execOp, fV ev 7 (.pointer (some ⟨p7, 0, .none⟩)) hk.1, hub, go_sem])
 ·exact OpOk.r (by simp [execOp, fV ev 4 (.pointer (some ⟨w.heap.size + 1, 0, .none⟩)) hk.1, hb.1, hug, go_sem])
 intro w3 hX
 rintro _ rfl _ rfl
 obtain ⟨H3, S3⟩ := nx H2.out S2.out hX
 clear hX H2 S2
 go_wp2
 refine Rest.done ?_
 have gY := H3.out.right.right
 have gLy := (HgL.out _ _ _ _ gY).1
 clear gY
 have H4 := hide (st1 H3.out (cs := Rr))
 have S4 := hide (S3.out.setRow (p7) Rr)
 have gW := on_blk_mul H3.out.right
 refine wpList_copy_zB rfl _ _ rfl (p7) _ _ (w.heap.size + 1) 0 rfl rfl r ZB _ HzB32.out gW gLy ?_
 rw [hvRr.out]
 go_wp2_with fail
 clear gLy
 generalize w3.setRow (p7) Rr = w4 at *
 clear gW H3 S3
 refine wp_tail 2 (iv [.slice (some ⟨p7 + 1, 0, .none⟩) 32 32, .slice (some ⟨w.heap.size + 1, 32, .none⟩) 32 32]) ?t108 ?r123
 case' t108 => refine ⟨?_, ?_, trivial⟩ <;> intro ev X hT hb hk hf
 ·exact OpOk.r (by simp [execOp, fV ev 8 (.pointer (some ⟨p7 + 1, 0, .none⟩)) hk.1, hub, go_sem])
 ·exact OpOk.r (by simp [execOp, fV ev 4 (.pointer (some ⟨w.heap.size + 1, 0, .none⟩)) hk.1, hb.1, hug, go_sem])
 intro w5 hX
 rintro _ rfl _ rfl
 obtain ⟨H5, S5⟩ := nx H4.out S4.out hX
 clear hX H4 S4
 go_wp2
 refine Rest.done ?_
 have gY := H5.out.right.right
 have gLy := (HgL.out _ _ _ _ gY).2
 clear gY
 have H6 := hide (st0 H5.out (cs := Ss))
 have S6 := hide (S5.out.setRow (p7 + 1) Ss)
 have gW := on_blk_mul H5.out
 refine wpList_copy_zB rfl _ _ rfl (p7 + 1) _ _ (w.heap.size + 1) 32 rfl rfl s ZB _ HzB32.out gW gLy ?_
 rw [hvSs.out]
 have gA := on_blk_mul H6.out.right.right.right
 go_wp2_with (first
  | (refine wL gA huk HsKk ?_))
 clear gA
 clear gLy
 generalize w5.setRow (p7 + 1) Ss = w6 at *
 clear gW H5 S5
 refine (hk1.out _ (hTab.out.below (all_below H6.out.right.right.right.right S6.out)) (hTabD.out.below (all_below H6.out.right.right.right.right S6.out))).mono ?_
 rintro e w7 ⟨rfl, hB⟩
 obtain ⟨H7, S7⟩ := nx H6.out S6.out hB
 clear hB H6 S6
 obtain ⟨gN, gM, H8, S8⟩ := newV H7.out S7.out Zp PA 128
 have gL0 := on_blk_mul H8.out.right.right
 go_wp2_with (first
  | (refine wS gN HsPA HzPA HoPA ?_)
  | (refine wL gL0 hub HsRr ?_))
 clear gL0
 generalize (w7.alloc (.cells Zp 128)).setRow w7.heap.size PA = w8 at *
 clear gN gM H7 S7
 generalize w7.heap.size = p9 at *
 refine (hk2.out _ (hTab.out.below (all_below H8.out.right.right.right.right.right S8.out)) (hTabD.out.below (all_below H8.out.right.right.right.right.right S8.out))).mono ?_
 rintro e w9 ⟨rfl, hB⟩
 obtain ⟨H9, S9⟩ := nx H8.out S8.out hB
 clear hB H8 S8
 obtain ⟨gN, gM, H10, S10⟩ := newV H9.out S9.out Zp PR 128
 have gL0 := on_blk_mul H10.out.right.right
 go_wp2_with (first
  | (refine wS gN HsPR HzPR HoPR ?_)
  | (refine wL gL0 hub HsSs ?_))
 clear gL0
 generalize (w9.alloc (.cells Zp 128)).setRow w9.heap.size PR = w10 at *
 clear gN gM H9 S9
 generalize w9.heap.size = p11 at *
 refine (hk3.out _ (HTo.out.below (all_below H10.out.right.right.right.right.right.right S10.out))).mono ?_
 rintro e w11 ⟨rfl, hB⟩
 obtain ⟨H11, S11⟩ := nx H10.out S10.out hB
 clear hB H10 S10
 obtain ⟨gN, gM, H12, S12⟩ := newV H11.out S11.out Z4 SV 131
 have HB := hide (all_below H12.out.right.right.right.right.right.right.right S12.out)
 rcases HcA.out with ⟨rfl, pA, hdA, hPA⟩ | ⟨rfl, hdA⟩
 ·have HdA := hide hdA
  have HPA := hide hPA
  clear hdA hPA
  rcases HcR.out with ⟨rfl, pR, hdR, hPR⟩ | ⟨rfl, hdR⟩
  ·have HdR := hide hdR
   have HPR := hide hPR
   clear hdR hPR
   rcases HcS.out with ⟨rfl, hsO, hSV⟩ | ⟨rfl, hsO⟩
   ·have hver := Hv1.out pA pR HdA.out HdR.out hsO
    have kS := hide hSV
    have q1 := fun X (h1 : Below w.heap.size w X) => hkt.out Ed.Pt.base s X hsO h1
    rw [← hSV] at q1
    have q2 := fun X (h1 : Below w.heap.size w X) => hkt.out pA cN X Hcl.out h1
    rw [← HPA.out, hvCc.out] at q2
    have hq1 := hide q1
    have hq2 := hide q2
    have hq3 := hide (fun X => hks.out (Ed.Pt.base.mul s) (pR.sum (pA.mul cN)) X)
    have hq4 := hide (fun u X h2 (h1 : Below w.heap.size w X) => hka.out pR (pA.mul cN) u X h2 h1)
    have hq5 := hide (fun X => hpp.out pR (pA.mul cN) X)
    have hq6 := hide (fun X => hc5.out pR (pA.mul cN) X)
    have hq0 := hk5
    generalize hbb : decide (Ed.Pt.base.mul s = pR.sum (pA.mul cN)) = bb at *
    have Hver := hide hver
    generalize psC [ptN pR, ptN (pA.mul cN)] = C2 at *
    generalize hP1 : ptC (pA.mul cN) = PY at *
    generalize hP2 : ptC (Ed.Pt.base.mul s) = PX at *
    generalize hP3 : ptC (pR.sum (pA.mul cN)) = PZ at *
    generalize hP4 : ptC Ed.Pt.base = PB at *
    rw [← HPR.out] at hq5
    clear hver q1 q2 hsO hSV hbb hP1 hP2 hP3 hP4
    have gK := on_blk_mul H12.out.right.right.right.right.right.right
    have gR9 := on_blk_mul H12.out.right.right.right.right
    go_wp2_with (first
     | (refine wS gN HsSV HzSV HoSV ?_)
     | (refine wL gK huk HsKk ?_)
     | (refine wL gR9 hub HsRr ?_))
    clear gK gR9 HB
    generalize (w11.alloc (.cells Z4 131)).setRow w11.heap.size SV = w12 at *
    clear gN gM H11 S11
    generalize w11.heap.size = p13 at *
    refine (hk4.out _ (all_below H12.out.right.right.right.right.right.right.right S12.out)).mono ?_
    rintro e w13 ⟨rfl, hB⟩
    obtain ⟨H13, S13⟩ := nx H12.out S12.out hB
    clear hB H12 S12
    obtain ⟨gN, gM, H14, S14⟩ := newV H13.out S13.out Z4 Cc 131
    go_wp2_with (first
     | (refine wS gN HsCc HzCc HoCc ?_))
    generalize (w13.alloc (.cells Z4 131)).setRow w13.heap.size Cc = w14 at *
    clear gN gM H13 S13
    generalize w13.heap.size = p15 at *
    refine wp_tail 10 [isV (.agg PB), isV (.agg SV), isV (.agg PX), isV (.agg PR), isV (.agg PA), isV (.agg Cc), isV (.agg PY), fun v X => IsPs X v [ptN pR, ptN (pA.mul cN)], isV (.agg PZ), isV (.bool bb)] ?t109 ?r124 (hk := ?keep)
    case keep => exact ⟨Keep.isV _, Keep.isV _, Keep.isV _, Keep.isV _, Keep.isV _, Keep.isV _, Keep.isV _, fun _ _ _ h k => IsPs.below h k, Keep.isV _, Keep.isV _, trivial⟩
    case' t109 => refine ⟨?_, ?_, ?_, ?_, ?_, ?_, ?_, ?_, ?_, ?_, trivial⟩ <;> intro ev X hT hb hk hf
    ·exact OpOk.c0 hb (hq0.out X (all_below (H14.out.below hT).right.right.right.right.right.right.right.right (S14.out.trans (Str.below hT))))
    ·exact OpOk.l (x := .tmp 13) hk.1 (on_blk_mul (H14.out.below hT).right) husn HsSV.out
    ·refine OpOk.enters (f := 82) (args := #[.agg PB, .agg SV]) (W' := X) (by simp [execOp, resolve, invoke, fX ev 51 hf.1, fX ev 52 hf.2.1, hb.1, hb.2.1, go_sem]) ((hq1.out X (all_below (H14.out.below hT).right.right.right.right.right.right.right.right (S14.out.trans (Str.below hT)))).mono ?_)
     rintro e _ ⟨rfl, hB⟩
     exact ⟨_, rfl, rfl, hB⟩
    ·exact OpOk.l (x := .tmp 11) hk.1 (on_blk_mul (H14.out.below hT).right.right) hup HsPR.out
    ·exact OpOk.l (x := .tmp 9) hk.1 (on_blk_mul (H14.out.below hT).right.right.right) hup HsPA.out
    ·exact OpOk.l (x := .tmp 15) hk.1 (on_blk_mul (H14.out.below hT)) husn HsCc.out
    ·refine OpOk.enters (f := 82) (args := #[.agg PA, .agg Cc]) (W' := X) (by simp [execOp, resolve, invoke, fX ev 55 hf.1, fX ev 56 hf.2.1, hb.1, hb.2.1, go_sem]) ((hq2.out X (all_below (H14.out.below hT).right.right.right.right.right.right.right.right (S14.out.trans (Str.below hT)))).mono ?_)
     rintro e _ ⟨rfl, hB⟩
     exact ⟨_, rfl, rfl, hB⟩
    ·exact OpOk.run (v := .slice (some ⟨X.heap.size, 0, .none⟩) 2 2) (W' := X.alloc (.cells C2 128)) (by simp [execOp, fX ev 54 hf.1, fX ev 57 hf.2.1, hq5.out X]) ⟨hq6.out X, (Below.refl X.heap.size X).alloc (Nat.le_refl _) _⟩
    ·have e0 : IsPs X (ev (.tmp 58)) [ptN pR, ptN (pA.mul cN)] := hf.1
     have e0 : IsPs X (ev (.tmp 58)) [ptN pR, ptN (pA.mul cN)] := hf.1
     exact OpOk.c0 hb (hq4.out _ X e0 (all_below (H14.out.below hT).right.right.right.right.right.right.right.right (S14.out.trans (Str.below hT))))
    ·exact OpOk.c2 (fX ev 53 hf.1) (fX ev 59 hf.2.1) hb (hq3.out X)
    intro w15 hX
    rintro _ rfl _ rfl _ rfl _ rfl _ rfl _ rfl _ rfl _ - _ rfl _ rfl
    obtain ⟨H15, S15⟩ := nx H14.out S14.out hX
    clear hX H14 S14
    go_wp2
    refine Rest.done ?_
    have HB := hide (all_below H15.out.right.right.right.right.right.right.right.right S15.out)
    rcases Bool.eq_false_or_eq_true bb with rfl | rfl
    ·skip
     go_wp2
     go_ret
     exact ⟨by rw [Hver.out]; rfl, HB.out⟩
    skip
    go_wp2
    go_ret
    exact ⟨by rw [Hver.out]; rfl, HB.out⟩
   have hver := Hn3.out hsO
   clear hsO
   have Hver := hide hver
   clear hver
   go_wp2_with (first
    | (refine wS gN HsSV HzSV HoSV ?_))
   go_ret
   exact ⟨by rw [Hver.out]; rfl, HB.out⟩
  have hver := Hn2.out hdR
  clear hdR
  have Hver := hide hver
  clear hver
  go_wp2_with (first
   | (refine wS gN HsSV HzSV HoSV ?_))
  go_ret
  exact ⟨by rw [Hver.out]; rfl, HB.out⟩
 have hver := Hn1.out hdA
 clear hdA
 have Hver := hide hver
 clear hver
 go_wp2_with (first
  | (refine wS gN HsSV HzSV HoSV ?_))
 go_ret
 exact ⟨by rw [Hver.out]; rfl, HB.out⟩
theorem mhash_any (v : Value) (ls : List (List UInt8)) (w : World) (h : IsRows w v ls) (hls : ls.length ≤ 1000) (hlen : ls.flatten.length ≤ 100000) :
  Calls Tryz.prog 19 #[v] w fun e w' => e = .returned (.agg (q4 (Sg.chalN ls.flatten))) ∧ Below w.heap.size w w' := by
 obtain ⟨a, c, vs, rfl, hc, hm, hlay, hvl, hin⟩ := h
 have hu8 := Tryz.underlying35
 have hu4 := Tryz.underlying51
 have hz4 := eZero4
 have hi : (Tryz.prog.info? 5).map (fun i => (i.zero, i.size, i.bytes)) = some (some (.int .u8 0), 1, 1) := by kernel_rfl
 have Hi := hide hi
 clear hi
 unfold maxLen at hm
 have h1 := (on_all w).alloc (.cells (q4 0) 51)
 have s1 := (Str.refl w).alloc (.cells (q4 0) 51)
 have H1 := hide (own_nil 5 1 h1)
 have S1 := hide s1
 obtain ⟨HsN, HoN, HzN⟩ := b3 (eInfo4 (Sg.chalN ls.flatten)) (eOne (Sg.chalN ls.flatten)) (eSize 0 (Sg.chalN ls.flatten))
 have Hlay := hide hlay
 have Hvl := hide hvl
 have Hin := hide hin
 have Hlen := hide hlen
 have hE := fun X => Sha64.short_any X
 have hS := fun u X (hu : IsBytes X u ls.flatten) => Sha64.rsum_any u ls.flatten X hu (by omega)
 have hdl := Sha64.digest_len ls.flatten
 have hR := fun u X (hu : IsBytes X u (Sha64.digest ls.flatten)) => rreduce_any u _ X hu (by rw [hdl]; omega)
 change ∀ u X, IsBytes X u (Sha64.digest ls.flatten) → Calls Tryz.prog 23 #[u] X fun e w' => e = .returned (.agg (q4 (Sg.chalN ls.flatten))) ∧ Below X.heap.size X w' at hR
 have HE := hide hE
 have HS := hide hS
 have HR := hide hR
 clear h1 s1 hlay hvl hin hE hS hR hdl
 generalize q4 (Sg.chalN ls.flatten) = N4 at *
 generalize q4 0 = Z4 at *
 generalize hF : Sha64.fc = fc at *
 have HF := hide hF
 clear hF
 go_enter Tryz.func19, Tryz.ntmps19
 go_wp2_with fail
 generalize w.alloc (.cells Z4 51) = w1 at *
 go_loopw [3, 4] (fun o i wr => ∃ k : Nat, k ≤ ls.length ∧ i = .int .i64 k ∧ (own 5 1 o (ls.take k).flatten.length (vbs (ls.take k).flatten) * (blk w.heap.size (.cells Z4 51 (0, 0)) * all w)).on wr ∧ Str w wr) (fun _ i _ => ls.length - (intOf i).toNat)
 case atStart => exact ⟨0, by omega, rfl, by simpa using H1.out, S1.out⟩
 obtain ⟨k, hk, rfl, how, hstr⟩ := hrel
 have How := hide how
 have Hstr := hide hstr
 have hB : Below w.heap.size w wr := all_below how.right.right hstr
 clear how hstr H1 S1
 by_cases hlt : k < ls.length
 ·have hkv : k < vs.length := by rw [Hvl.out]; exact hlt
  obtain ⟨b, off, rfl⟩ := Lay.isAddr Hlay.out k hkv
  have hc0 := Lay.cell (Hlay.out.below hB) k (List.getElem?_eq_getElem hkv)
  obtain ⟨a2, c2, hv2, hc2, hm2, hl2, hn2⟩ := Hin.out k vs[k] ls[k] (List.getElem?_eq_getElem hkv) (List.getElem?_eq_getElem hlt)
  have HN := hide (show (ls.take (k + 1)).flatten = (ls.take k).flatten ++ ls[k] by rw [List.take_succ_eq_append_getElem hlt, List.flatten_append]; simp)
  have hfl : ((ls.take k).flatten).length + ls[k].length ≤ ls.flatten.length := by
   have e9 : ls.flatten = (ls.take (k + 1)).flatten ++ (ls.drop (k + 1)).flatten := by rw [← List.flatten_append, List.take_append_drop]
   rw [e9, HN.out]
   simp only [List.length_append]
   omega
  rw [hv2] at hc0
  clear hv2
  unfold maxLen at hm2
  have Hb := hide (show IsBytes w (.slice a2 ls[k].length c2) ls[k] from ⟨a2, c2, rfl, hc2, by unfold maxLen; exact hm2, hl2, hn2⟩)
  have hfl2 : ((ls.take k).flatten).length + ls[k].length ≤ 100000 := Nat.le_trans hfl Hlen.out
  clear hl2 hn2 hfl
  generalize ls[k] = x at *
  go_wp2_with (at_builtin; refine wpList_append_bytes (F := blk w.heap.size (.cells Z4 51 (0, 0)) * all w) rfl _ _ 35 rfl 5 hu8 Hi.out _ (ls.take k).flatten x rfl How.out _ rfl (Hb.out.below hB) (by omega) ?_; intro v2 w2 ho2 hs2)
  exact ⟨⟨k + 1, by omega, by simp, by rw [HN.out]; exact ho2, Hstr.out.trans hs2⟩, by simp [intOf]; omega⟩
 obtain rfl : k = ls.length := by omega
 rw [List.take_length] at How
 generalize ls.flatten = fl at *
 have hO := own_bytes How.out
 have Hr := hide How.out.right
 have HO := hide hO
 obtain ⟨a2, c2, rfl, _⟩ := hO
 clear hB hlt hk How
 go_wp2_with fail
 refine (HE.out _).mono ?_
 rintro e w2 ⟨rfl, hB2⟩
 have hs := HS.out _ w2 (HO.out.below hB2)
 skip
 obtain ⟨H2, S2⟩ := nx Hr.out Hstr.out hB2
 clear hB2 Hstr HO Hr
 go_wp2_with fail
 refine hs.mono ?_
 clear hs
 rintro e w3 ⟨u, rfl, ho, hs⟩
 have H3 := hide (on_all_to ho H2.out)
 have S3 := hide (S2.out.trans hs)
 clear ho hs H2 S2
 have hr := HR.out u w3 (own_bytes H3.out)
 obtain ⟨ua, uc, rfl, _⟩ := own_bytes H3.out
 go_wp2_with fail
 refine hr.mono ?_
 clear hr
 rintro e w4 ⟨rfl, hB⟩
 obtain ⟨H4, S4⟩ := nx (H3.out.right) S3.out hB
 clear hB H3 S3
 have gR := on_blk_mul H4.out
 have HB := hide (all_below H4.out.right S4.out)
 go_wp2_with (first
  | (refine wS gR HsN HzN HoN ?_))
 exact retE Tryz.results19 gR hu4 HsN.out rfl (rfl) HB.out (by omega)
end Cv
end Go.Proofs.YtjdebgbiockafaaGreatDoor
