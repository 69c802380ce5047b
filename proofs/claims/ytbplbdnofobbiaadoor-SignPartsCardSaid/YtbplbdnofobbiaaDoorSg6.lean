/- sign: the document's public key, and its signature. -/
import Derived.Test.YtbplbdnofobbiaaDoorSg5
import Derived.Test.YtbplbdnofobbiaaDoorSg2
import Derived.Test.YtbplbdnofobbiaaDoorGCv3
import Derived.Test.YtbplbdnofobbiaaDoorGRs
set_option linter.unusedVariables false
set_option linter.unusedSimpArgs false
set_option maxRecDepth 100000
set_option maxHeartbeats 8000000
namespace Go.Proofs.YtbplbdnofobbiaaDoor
namespace Cv
open Fe
open Go.ChangeShapes Go.WideShapes Go.ChangeAt Go.RowKit
theorem hInfo (r s : Nat) : (Tryd.prog.info? 61).map (·.size) = some (gC r s).size := by rw [gC_sz]; kernel_rfl
theorem hZero (w : World) : (zeroValue 61).run Tryd.prog w = .ok (.agg (gC 0 0)) w := by rw [g0]; kernel_rfl
def encM (p : Ed.Pt) : Nat := Ed.encN p.x.val p.y.val
theorem encM_lt (p : Ed.Pt) : encM p < 256 ^ 32 := Ed.encN_lt _ _ p.y.isLt
theorem encM_bl (p : Ed.Pt) : bl (encM p) = Ed.enc p := rfl
theorem encM_zB (p : Ed.Pt) : zB (encM p) = zb (Ed.enc p) := rfl
def pubN (n : Nat) : Nat := encM (Sg.pubP (bl n))
def sigRN (n : Nat) (m : List UInt8) : Nat := encM (Sg.sigP (bl n) m)
theorem sigB_is (n : Nat) (m : List UInt8) : Sg.sigB (bl n) m = bl (sigRN n m) ++ bl (Sg.sigT (bl n) m) := rfl
theorem pubB_is (n : Nat) : Sg.pubB (bl n) = bl (pubN n) := rfl
theorem run_rr3 (a b d : Option Addr) (n c m e k f : Nat) (w : World) : (Instr.buildSlice 106 3 #[(0, .slice a n c), (1, .slice b m e), (2, .slice d k f)]).run Tryd.prog w = .ok (.slice (some ⟨w.heap.size, 0, .none⟩) 3 3) (w.alloc (.cells #[.slice a n c, .slice b m e, .slice d k f] 56)) := by kernel_rfl
theorem rows_three {w : World} {v1 v2 v3 : Value} {l1 l2 l3 : List UInt8} (h1 : IsBytes w v1 l1) (h2 : IsBytes w v2 l2) (h3 : IsBytes w v3 l3) (t : TypeId) : IsRows (w.alloc (.cells #[v1, v2, v3] t)) (.slice (some ⟨w.heap.size, 0, .none⟩) 3 3) [l1, l2, l3] :=
 IsRows.new w [v1, v2, v3] [l1, l2, l3] rfl (by simp [maxLen]) (fun i v l e e' => by
  match i, e, e' with
  | 0, e, e' => simp at e e'; subst e; subst e'; exact h1
  | 1, e, e' => simp at e e'; subst e; subst e'; exact h2
  | 2, e, e' => simp at e e'; subst e; subst e'; exact h3
  | i + 3, e, _ => simp at e) t
def oL (a b : List UInt8) (k : Nat) : List UInt8 := (a.take k ++ (List.replicate 32 0).drop k) ++ (b.take k ++ (List.replicate 32 0).drop k)
theorem oL_0 (a b : List UInt8) : oL a b 0 = List.replicate 64 0 := by simp [oL, List.replicate_append_replicate]
theorem oL_32 (a b : List UInt8) (h1 : a.length = 32) (h2 : b.length = 32) : oL a b 32 = a ++ b := by
 unfold oL
 rw [List.take_of_length_le (by omega), List.take_of_length_le (by omega)]
 simp
theorem half_set (a z : List UInt8) (k : Nat) (x : UInt8) (h : a[k]? = some x) (hz : k < z.length) : (a.take k ++ z.drop k).set k x = a.take (k + 1) ++ z.drop (k + 1) := by
 have hk : k < a.length := (List.getElem?_eq_some_iff.1 h).1
 have hx : a[k] = x := (List.getElem?_eq_some_iff.1 h).2
 rw [List.set_append_right _ _ (by simp; omega), List.length_take, Nat.min_eq_left (by omega), Nat.sub_self, List.drop_eq_getElem_cons hz, List.set_cons_zero, List.take_succ_eq_append_getElem hk, hx, List.append_assoc]
 rfl
theorem oL_step (a b : List UInt8) (k : Nat) (x y : UInt8) (h1 : a[k]? = some x) (h2 : b[k]? = some y) (hk : k < 32) : ((oL a b k).set k x).set (32 + k) y = oL a b (k + 1) := by
 have hka : k < a.length := (List.getElem?_eq_some_iff.1 h1).1
 have hkb : k < b.length := (List.getElem?_eq_some_iff.1 h2).1
 unfold oL
 have l1 : (a.take k ++ (List.replicate 32 (0 : UInt8)).drop k).length = 32 := by simp; omega
 have l2 : (a.take (k + 1) ++ (List.replicate 32 (0 : UInt8)).drop (k + 1)).length = 32 := by simp; omega
 rw [List.set_append_left _ _ (by omega), half_set a _ k x h1 (by simp; omega), List.set_append_right _ _ (by omega), l2, Nat.add_sub_cancel_left, half_set b _ k y h2 (by simp; omega)]
theorem oL_get (a b : List UInt8) (k j : Nat) (h1 : a.length = 32) (h2 : b.length = 32) (hk : k ≤ 32) (hj : j < 64) : ∃ x, (oL a b k)[j]? = some x :=
 ⟨_, List.getElem?_eq_getElem (by simp [oL]; omega)⟩
theorem zbCell {F : SP} {b : Nat} {l : List UInt8} {t : TypeId} {w : World} (h : (blk b (.cells (zb l) t (0, 0)) * F).on w) (k : Nat) (x : UInt8) (hx : l[k]? = some x) : w.cell? ⟨b, k, .none⟩ = some (vb x) :=
 (cell_of_row w b k _ _ _ (on_blk_mul h)).trans (zb_get l k x hx)
theorem zbSet {F : SP} {b : Nat} {l : List UInt8} {t : TypeId} {w : World} (h : (blk b (.cells (zb l) t (0, 0)) * F).on w) (k : Nat) (x : UInt8) : (blk b (.cells (zb (l.set k x)) t (0, 0)) * F).on (w.setCell ⟨b, k, .none⟩ (vb x)) := by
 have := SP.on.setCell (i := k) h (vb x)
 rwa [zb_set] at this
theorem q256 : 18446744073709551616 ^ 4 = 256 ^ 32 := by decide +kernel
theorem q2256 : 256 ^ 32 = 2 ^ 256 := by decide +kernel
theorem bytesL_zB (n : Nat) (h : n < 256 ^ 32) (w : World) :
  Calls Tryd.prog 25 #[.agg (q4 n)] w fun e w' => e = .returned (.agg (zB n)) ∧ Below w.heap.size w w' := by
 have h2 := bytesL_any n w
 rw [bl_wbs n (by rw [q256]; exact h)] at h2
 exact h2
theorem mbase_times (n : Nat) (hn : n < 256 ^ 32) (w : World) :
  Calls Tryd.prog 24 #[.agg (tpC (tOf Ed.Pt.base)), .agg (q4 n), .agg (n17 Ed.dN)] w fun e w' => e = .returned (.agg (tpC (Ed.Tp.times (tOf Ed.Pt.base) n 256))) ∧ Below w.heap.size w w' :=
 mtimes_any (tOf Ed.Pt.base) n (by rw [q256]; exact hn) w
theorem mbase_enc (n : Nat) (hn : n < 256 ^ 32) (w : World) :
  Calls Tryd.prog 16 #[.agg (tpC (Ed.Tp.times (tOf Ed.Pt.base) n 256))] w fun e w' => e = .returned (.agg (zB (encM (Ed.Pt.base.mul n)))) ∧ Below w.heap.size w w' :=
 mencode_any (Ed.Tp.times_all (tOf_has Ed.Pt.base) n (by rw [← q2256]; exact hn)) w
theorem mpublic_any (n : Nat) (hn : n < 256 ^ 32) (w : World) :
  Calls Tryd.prog 31 #[.agg (zB n)] w fun e w' => e = .returned (.agg (zB (pubN n))) ∧ Below w.heap.size w w' := by
 have hub := Tryd.underlying38
 have hu4 := Tryd.underlying23
 have hzB := zBZero
 have hzL := eZero4
 have h0 := ((on_all w).alloc (.cells (zB n) 38)).alloc (.cells (zB 0) 38)
 have s0 := ((Str.refl w).alloc (.cells (zB n) 38)).alloc (.cells (zB 0) 38)
 try simp only [World.size_alloc] at h0
 have H1 := hide h0
 have S1 := hide s0
 clear h0 s0
 have hk1 := hide (fun X => msecret_any n hn X)
 have hlt := Sg.secN_lt (bl n)
 have hk2 := hide (fun X => mbase_any X)
 have hk3 := hide (fun X => md_any X)
 have hk4 := hide (fun X => mbase_times (Sg.secN (bl n)) hlt X)
 have k5 := fun X => mbase_enc (Sg.secN (bl n)) hlt X
 change ∀ X, Calls Tryd.prog 16 #[.agg (tpC (Ed.Tp.times (tOf Ed.Pt.base) (Sg.secN (bl n)) 256))] X fun e w' => e = .returned (.agg (zB (pubN n))) ∧ Below X.heap.size X w' at k5
 have hk5 := hide k5
 clear hn hlt k5
 obtain ⟨HsSs, HoSs, HzSs⟩ := b3 (zBInfo n) (zBOne n) (zBSize 0 n)
 obtain ⟨HsPb, HoPb, HzPb⟩ := b3 (zBInfo (pubN n)) (zBOne (pubN n)) (zBSize 0 (pubN n))
 obtain ⟨HsNn, HoNn, HzNn⟩ := b3 (eInfo4 (Sg.secN (bl n))) (eOne (Sg.secN (bl n))) (eSize 0 (Sg.secN (bl n)))
 generalize zB n = Ss at *
 generalize zB (pubN n) = Pb at *
 generalize q4 (Sg.secN (bl n)) = Nn at *
 generalize zB 0 = ZB at *
 generalize q4 0 = Z4 at *
 generalize tpC (Ed.Tp.times (tOf Ed.Pt.base) (Sg.secN (bl n)) 256) = TM at *
 generalize tpC (tOf Ed.Pt.base) = TB at *
 generalize n17 Ed.dN = Dd at *
 go_enter Tryd.func31, Tryd.ntmps31
 refine wp_seq_h fun K1 hK1 => ?_
 go_wp2_with fail
 refine hK1.out _ _ ?_
 clear hK1 K1
 generalize (w.alloc (.cells Ss 38)).alloc (.cells ZB 38) = w1 at *
 have gA := on_blk_mul H1.out.right
 go_wp2_with (first
  | (refine wL gA hub HsSs ?_))
 clear gA
 refine (hk1.out _).mono ?_
 rintro e w2 ⟨og, oc, u, rfl, ho, hu, hs⟩
 have H2 := hide (on_all_to ho H1.out)
 have S2 := hide (S1.out.trans hs)
 have HU := hide hu
 clear ho hu hs H1 S1
 obtain ⟨gN, gM, H3, S3⟩ := newV H2.out S2.out Z4 Nn 23
 go_wp2_with (first
  | (refine wS gN HsNn HzNn HoNn ?_))
 generalize (w2.alloc (.cells Z4 23)).setRow w2.heap.size Nn = w3 at *
 clear gN gM H2 S2
 generalize w2.heap.size = p3 at *
 refine wp_tail 5 [isV (.agg TB), isV (.agg Nn), isV (.agg Dd), isV (.agg TM), isV (.agg Pb)] ?keep ?todo ?r113
 case keep => repeat (first | exact trivial | refine ⟨Keep.isV _, ?_⟩)
 case todo =>
  refine ⟨?_, ?_, ?_, ?_, ?_, trivial⟩
  ·intro ev X hT hb hk hf
   exact OpOk.c (by simp [execOp, resolve, invoke, hb.1, hb.2.1, go_sem]) (hk2.out X)
  ·exact fun ev X hT hb hk hf => OpOk.l (x := .tmp 3) hk.1 (on_blk_mul (H3.out.below hT)) hu4 HsNn.out
  ·intro ev X hT hb hk hf
   exact OpOk.c (by simp [execOp, resolve, invoke, hb.1, hb.2.1, go_sem]) (hk3.out X)
  ·intro ev X hT hb hk hf
   have e0 : ev (.tmp 10) = _ := hf.1
   have e1 : ev (.tmp 11) = _ := hf.2.1
   have e2 : ev (.tmp 12) = _ := hf.2.2.1
   exact OpOk.c (by simp [execOp, resolve, invoke, e0, e1, e2, hb.1, hb.2.1, go_sem]) (hk4.out X)
  ·intro ev X hT hb hk hf
   have e0 : ev (.tmp 13) = _ := hf.1
   exact OpOk.c (by simp [execOp, resolve, invoke, e0, hb.1, hb.2.1, go_sem]) (hk5.out X)
 intro w4 hX
 rintro _ rfl _ rfl _ rfl _ rfl _ rfl
 obtain ⟨H4, S4⟩ := nx H3.out S3.out hX
 clear hX H3 S3
 go_wp2
 refine Rest.done ?_
 have gR := on_blk_mul H4.out.right.right
 have HB := hide (all_below H4.out.right.right.right.right S4.out)
 go_wp2_with (first
  | (refine wS gR HsPb HzPb HoPb ?_))
 exact retR Tryd.results31 gR hub HsPb.out rfl HB.out (by omega)
theorem msign_any (n : Nat) (hn : n < 256 ^ 32) (v : Value) (m : List UInt8) (w : World) (h : IsBytes w v m) (hm : m.length ≤ 10000) :
  Calls Tryd.prog 32 #[.agg (zB n), v] w fun e w' => e = .returned (.agg (gC (sigRN n m) (Sg.sigT (bl n) m))) ∧ Below w.heap.size w w' := by
 have hub := Tryd.underlying38
 have hu4 := Tryd.underlying23
 have huh := Tryd.underlying61
 have hzB := zBZero
 have hzL := eZero4
 have hzH := hZero
 have h0 := ((on_all w).alloc (.cells (zB n) 38)).alloc (.cells (gC 0 0) 61)
 have s0 := ((Str.refl w).alloc (.cells (zB n) 38)).alloc (.cells (gC 0 0) 61)
 try simp only [World.size_alloc] at h0
 have H1 := hide h0
 have S1 := hide s0
 clear h0 s0
 have hu8s := Tryd.underlying56
 have hu8 := Tryd.underlying5
 have hlt := Sg.secN_lt (bl n)
 have hlr := Nat.lt_trans (Sg.rN_lt (bl n) m) Sg.O6_32
 have hlr0 := Sg.rN_lt (bl n) m
 have hlk := Sg.chalN_lt (Ed.enc (Sg.sigP (bl n) m) ++ Sg.pubB (bl n) ++ m)
 change Sg.sigK (bl n) m < O6 at hlk
 have hlT := Nat.lt_trans (Sg.sigT_lt (bl n) m) Sg.O6_32
 have hO0 : 0 < O6 := Sg.O6_pos
 have hlg : Sg.secN (bl n) % O6 < O6 := Nat.mod_lt _ hO0
 have hlm : Sg.sigK (bl n) m * (Sg.secN (bl n) % O6) % O6 < O6 := Nat.mod_lt _ hO0
 have hlg4 : Sg.secN (bl n) % O6 < 18446744073709551616 ^ 4 := by rw [q256]; exact Nat.lt_trans hlg Sg.O6_32
 have hk1 := hide (fun X => msecret_any n hn X)
 have hk2 := hide (fun X => mbase_any X)
 have hk3 := hide (fun X => md_any X)
 have hk4 := hide (fun X => mbase_times (Sg.rN (bl n) m) hlr X)
 have k5 := fun X => mbase_enc (Sg.rN (bl n) m) hlr X
 change ∀ X, Calls Tryd.prog 16 #[.agg (tpC (Ed.Tp.times (tOf Ed.Pt.base) (Sg.rN (bl n) m) 256))] X fun e w' => e = .returned (.agg (zB (sigRN n m))) ∧ Below X.heap.size X w' at k5
 have hk5 := hide k5
 have hk6 := hide (fun X => mpublic_any n hn X)
 have h64 : (Sg.secR (bl n)).length = 32 := Sg.secR_len (bl n)
 have f1 : [Sg.secR (bl n), m].flatten = Sg.secR (bl n) ++ m := by simp
 have f2 : [bl (sigRN n m), bl (pubN n), m].flatten = bl (sigRN n m) ++ bl (pubN n) ++ m := by simp
 have k7 := fun u X (hr : IsRows X u [Sg.secR (bl n), m]) => mhash_any u [Sg.secR (bl n), m] X hr (by simp) (by rw [f1, List.length_append, h64]; omega)
 rw [f1] at k7
 change ∀ u X, IsRows X u [Sg.secR (bl n), m] → Calls Tryd.prog 66 #[u] X fun e w' => e = .returned (.agg (q4 (Sg.rN (bl n) m))) ∧ Below X.heap.size X w' at k7
 have hk7 := hide k7
 have k8 := fun u X (hr : IsRows X u [bl (sigRN n m), bl (pubN n), m]) => mhash_any u [bl (sigRN n m), bl (pubN n), m] X hr (by simp) (by rw [f2, List.length_append, List.length_append, bl_len, bl_len]; omega)
 rw [f2] at k8
 change ∀ u X, IsRows X u [bl (sigRN n m), bl (pubN n), m] → Calls Tryd.prog 66 #[u] X fun e w' => e = .returned (.agg (q4 (Sg.sigK (bl n) m))) ∧ Below X.heap.size X w' at k8
 have hk8 := hide k8
 have hk9 := hide (fun X => bytesL_zB (Sg.secN (bl n)) hlt X)
 have k10 := fun u X (hb : IsBytes X u (bl (Sg.secN (bl n)))) => rreduce_any u _ X hb (by rw [bl_len]; omega)
 rw [leN_bl _ hlt] at k10
 have hk10 := hide k10
 have hk11 := hide (fun X => mulL_any (Sg.sigK (bl n) m) (Sg.secN (bl n) % O6) hlk hlg4 X)
 have k12 := fun X => addL_any (Sg.rN (bl n) m) (Sg.sigK (bl n) m * (Sg.secN (bl n) % O6) % O6) hlr0 hlm X
 change ∀ X, Calls Tryd.prog 67 #[.agg (q4 (Sg.rN (bl n) m)), .agg (q4 (Sg.sigK (bl n) m * (Sg.secN (bl n) % O6) % O6))] X fun e w' => e = .returned (.agg (q4 (Sg.sigT (bl n) m))) ∧ Below X.heap.size X w' at k12
 have hk12 := hide k12
 have hk13 := hide (fun X => bytesL_zB (Sg.sigT (bl n) m) hlT X)
 have HlR := hide (fun X g (F : SP) t => zB_lay (X := X) (g := g) (F := F) (n := sigRN n m) (t := t))
 have HlP := hide (fun X g (F : SP) t => zB_lay (X := X) (g := g) (F := F) (n := pubN n) (t := t))
 have HlN := hide (fun X g (F : SP) t => zB_lay (X := X) (g := g) (F := F) (n := Sg.secN (bl n)) (t := t))
 have Hcl : Hid ((Sg.clampL (Sha64.digest (bl n))).length = 64) := hide (by rw [Sg.clampL_len, Sha64.digest_len])
 have HcR : Hid (∀ (k : Nat) (x : UInt8), (bl (sigRN n m))[k]? = some x → (zB (sigRN n m))[k]? = some (vb x)) := hide (fun k x h => zb_get _ k x h)
 have HcT : Hid (∀ (k : Nat) (x : UInt8), (bl (Sg.sigT (bl n) m))[k]? = some x → (zB (Sg.sigT (bl n) m))[k]? = some (vb x)) := hide (fun k x h => zb_get _ k x h)
 have HlenR := hide (bl_len (sigRN n m))
 have HlenT := hide (bl_len (Sg.sigT (bl n) m))
 have Hend : Hid (zb (oL (bl (sigRN n m)) (bl (Sg.sigT (bl n) m)) 32) = gC (sigRN n m) (Sg.sigT (bl n) m)) := hide (congrArg zb (oL_32 _ _ HlenR.out HlenT.out))
 have Hbeg : Hid (zb (oL (bl (sigRN n m)) (bl (Sg.sigT (bl n) m)) 0) = gC 0 0) := hide (by rw [g0, oL_0])
 have HM := hide h
 obtain ⟨ma, mc, rfl, hmc, hmm, _, _⟩ := h
 unfold maxLen at hmm
 clear k5 k7 k8 k10 k12 hlt hlr hlr0 hlk hlT hO0 hlg hlm hlg4 h64 f1 f2 hn
 obtain ⟨HsSs, HoSs, HzSs⟩ := b3 (zBInfo n) (zBOne n) (zBSize 0 n)
 obtain ⟨HsPb, HoPb, HzPb⟩ := b3 (zBInfo (pubN n)) (zBOne (pubN n)) (zBSize 0 (pubN n))
 obtain ⟨HsNn, HoNn, HzNn⟩ := b3 (eInfo4 (Sg.secN (bl n))) (eOne (Sg.secN (bl n))) (eSize 0 (Sg.secN (bl n)))
 obtain ⟨HsRn, HoRn, HzRn⟩ := b3 (eInfo4 (Sg.rN (bl n) m)) (eOne (Sg.rN (bl n) m)) (eSize 0 (Sg.rN (bl n) m))
 obtain ⟨HsRb, HoRb, HzRb⟩ := b3 (zBInfo (sigRN n m)) (zBOne (sigRN n m)) (zBSize 0 (sigRN n m))
 obtain ⟨HsKn, HoKn, HzKn⟩ := b3 (eInfo4 (Sg.sigK (bl n) m)) (eOne (Sg.sigK (bl n) m)) (eSize 0 (Sg.sigK (bl n) m))
 obtain ⟨HsNb, HoNb, HzNb⟩ := b3 (zBInfo (Sg.secN (bl n))) (zBOne (Sg.secN (bl n))) (zBSize 0 (Sg.secN (bl n)))
 obtain ⟨HsNg, HoNg, HzNg⟩ := b3 (eInfo4 (Sg.secN (bl n) % O6)) (eOne (Sg.secN (bl n) % O6)) (eSize 0 (Sg.secN (bl n) % O6))
 obtain ⟨HsMg, HoMg, HzMg⟩ := b3 (eInfo4 (Sg.sigK (bl n) m * (Sg.secN (bl n) % O6) % O6)) (eOne (Sg.sigK (bl n) m * (Sg.secN (bl n) % O6) % O6)) (eSize 0 (Sg.sigK (bl n) m * (Sg.secN (bl n) % O6) % O6))
 obtain ⟨HsTn, HoTn, HzTn⟩ := b3 (eInfo4 (Sg.sigT (bl n) m)) (eOne (Sg.sigT (bl n) m)) (eSize 0 (Sg.sigT (bl n) m))
 obtain ⟨HsTb, HoTb, HzTb⟩ := b3 (zBInfo (Sg.sigT (bl n) m)) (zBOne (Sg.sigT (bl n) m)) (zBSize 0 (Sg.sigT (bl n) m))
 obtain ⟨HsGs, HoGs, HzGs⟩ := b3 (hInfo (sigRN n m) (Sg.sigT (bl n) m)) (gOne (sigRN n m) (Sg.sigT (bl n) m)) (gSize 0 0 (sigRN n m) (Sg.sigT (bl n) m))
 generalize zB n = Ss at *
 generalize zB (pubN n) = Pb at *
 generalize q4 (Sg.secN (bl n)) = Nn at *
 generalize q4 (Sg.rN (bl n) m) = Rn at *
 generalize zB (sigRN n m) = Rb at *
 generalize q4 (Sg.sigK (bl n) m) = Kn at *
 generalize zB (Sg.secN (bl n)) = Nb at *
 generalize q4 (Sg.secN (bl n) % O6) = Ng at *
 generalize q4 (Sg.sigK (bl n) m * (Sg.secN (bl n) % O6) % O6) = Mg at *
 generalize q4 (Sg.sigT (bl n) m) = Tn at *
 generalize zB (Sg.sigT (bl n) m) = Tb at *
 generalize gC (sigRN n m) (Sg.sigT (bl n) m) = Gs at *
 generalize zB 0 = ZB at *
 generalize q4 0 = Z4 at *
 generalize gC 0 0 = ZH at *
 generalize tpC (Ed.Tp.times (tOf Ed.Pt.base) (Sg.rN (bl n) m) 256) = TM at *
 generalize tpC (tOf Ed.Pt.base) = TB at *
 generalize n17 Ed.dN = Dd at *
 generalize Sg.secR (bl n) = sR at *
 generalize Sg.clampL (Sha64.digest (bl n)) = cl at *
 generalize bl (sigRN n m) = lR at *
 generalize bl (pubN n) = lP at *
 generalize bl (Sg.secN (bl n)) = lN at *
 generalize bl (Sg.sigT (bl n) m) = lT at *
 go_enter Tryd.func32, Tryd.ntmps32
 refine wp_seq_h fun K2 hK2 => ?_
 go_wp2_with fail
 refine hK2.out _ _ ?_
 clear hK2 K2
 generalize (w.alloc (.cells Ss 38)).alloc (.cells ZH 61) = w1 at *
 have gA := on_blk_mul H1.out.right
 go_wp2_with (first
  | (refine wL gA hub HsSs ?_))
 clear gA
 refine (hk1.out _).mono ?_
 rintro e w2 ⟨og, oc, u, rfl, ho, hu, hs⟩
 have H2 := hide (on_all_to ho H1.out)
 have S2 := hide (S1.out.trans hs)
 have HU := hide hu
 clear ho hu hs H1 S1
 have hsl := HU.out _ (own_bytes H2.out)
 obtain ⟨ua, uc, rfl, _⟩ := hsl
 obtain ⟨gN, gM, H3, S3⟩ := newV H2.out S2.out Z4 Nn 23
 have gL0 := on_blk_mul H3.out.right.right.right
 go_wp2_with (first
  | (refine wS gN HsNn HzNn HoNn ?_)
  | (refine wL gL0 hub HsSs ?_))
 clear gL0
 generalize (w2.alloc (.cells Z4 23)).setRow w2.heap.size Nn = w3 at *
 clear gN gM H2 S2
 generalize w2.heap.size = p5 at *
 refine (hk6.out _).mono ?_
 rintro e w4 ⟨rfl, hB⟩
 obtain ⟨H4, S4⟩ := nx H3.out S3.out hB
 clear hB H3 S3
 obtain ⟨gN, gM, H5, S5⟩ := newV H4.out S4.out ZB Pb 38
 go_wp2_with (first
  | (refine wS gN HsPb HzPb HoPb ?_))
 have hsz : ((w4.alloc (.cells ZB 38)).setRow w4.heap.size Pb).heap.size = w4.heap.size + 1 := by simp [World.setRow]
 generalize (w4.alloc (.cells ZB 38)).setRow w4.heap.size Pb = w5 at *
 clear gN gM H4 S4
 generalize w4.heap.size = p7 at *
 have hr := IsRows.new2 (w := w5) (HU.out _ (own_bytes (H5.out.right.right))) (HM.out.below (all_below H5.out.right.right.right.right.right S5.out)) 56
 rw [hsz] at hr
 clear hsz
 refine (hk7.out _ _ hr).mono ?_
 clear hr
 rintro e w6 ⟨rfl, hB⟩
 have H6 := hide ((SP.on.alloc' H5.out _).below hB)
 have S6 := hide ((S5.out.alloc _).trans (Str.below hB))
 clear hB H5 S5
 obtain ⟨gN, gM, H7, S7⟩ := newV H6.out S6.out Z4 Rn 23
 go_wp2_with (first
  | (refine wS gN HsRn HzRn HoRn ?_))
 generalize (w6.alloc (.cells Z4 23)).setRow w6.heap.size Rn = w7 at *
 clear gN gM H6 S6
 generalize w6.heap.size = p8 at *
 refine wp_tail 6 [isV (.agg TB), isV (.agg Rn), isV (.agg Dd), isV (.agg TM), isV (.agg Rb), Fresh w7.heap.size (.cells ZB 38 (0, 0))] ?keep ?todo ?r114
 case keep => exact ⟨Keep.isV _, Keep.isV _, Keep.isV _, Keep.isV _, Keep.isV _, Fresh.keep, trivial⟩
 case todo =>
  refine ⟨?_, ?_, ?_, ?_, ?_, ?_, trivial⟩
  ·intro ev X hT hb hk hf
   exact OpOk.c (by simp [execOp, resolve, invoke, hb.1, hb.2.1, go_sem]) (hk2.out X)
  ·exact fun ev X hT hb hk hf => OpOk.l (x := .tmp 8) hk.1 (on_blk_mul (H7.out.below hT)) hu4 HsRn.out
  ·intro ev X hT hb hk hf
   exact OpOk.c (by simp [execOp, resolve, invoke, hb.1, hb.2.1, go_sem]) (hk3.out X)
  ·intro ev X hT hb hk hf
   have e0 : ev (.tmp 26) = _ := hf.1
   have e1 : ev (.tmp 27) = _ := hf.2.1
   have e2 : ev (.tmp 28) = _ := hf.2.2.1
   exact OpOk.c (by simp [execOp, resolve, invoke, e0, e1, e2, hb.1, hb.2.1, go_sem]) (hk4.out X)
  ·intro ev X hT hb hk hf
   have e0 : ev (.tmp 29) = _ := hf.1
   exact OpOk.c (by simp [execOp, resolve, invoke, e0, hb.1, hb.2.1, go_sem]) (hk5.out X)
  ·intro ev X hT hb hk hf
   exact OpOk.al hT.size (by simp [execOp, hzB, go_sem])
 intro w8 hX
 rintro _ rfl _ rfl _ rfl _ rfl _ rfl _ ⟨g9, rfl, hgg9, hcg9⟩
 have H8 := hide (on_fresh H7.out hX hgg9 hcg9)
 have S8 := hide (S7.out.trans (Str.below hX))
 clear hX H7 S7 hgg9 hcg9
 go_wp2
 refine Rest.done ?_
 have H9 := hide (st0 H8.out (cs := Rb))
 have S9 := hide (S8.out.setRow (g9) Rb)
 have gW := on_blk_mul H8.out
 go_wp2_with (first
  | (refine wS gW HsRb HzRb HoRb ?_))
 generalize w8.setRow (g9) Rb = w9 at *
 clear gW H8 S8
 refine wp_tail 6 [isV (.slice (some ⟨g9, 0, .none⟩) 32 32), isV (.slice (some ⟨p7, 0, .none⟩) 32 32), isV (.slice ma m.length mc), fun v X => IsRows X v [lR, lP, m], isV (.agg Kn), Fresh w9.heap.size (.cells Z4 23 (0, 0))] ?keep ?todo ?r115
 case keep => exact ⟨Keep.isV _, Keep.isV _, Keep.isV _, fun _ _ _ h k => IsRows.below h k, Keep.isV _, Fresh.keep, trivial⟩
 case todo =>
  refine ⟨?_, ?_, ?_, ?_, ?_, ?_, trivial⟩
  ·intro ev X hT hb hk hf
   have e0 : ev (.tmp 9) = .pointer (some ⟨g9, 0, .none⟩) := hk.1
   exact OpOk.r (by simp [execOp, e0, hub, go_sem])
  ·intro ev X hT hb hk hf
   have e0 : ev (.tmp 7) = .pointer (some ⟨p7, 0, .none⟩) := hk.1
   exact OpOk.r (by simp [execOp, e0, hub, go_sem])
  ·exact fun _ _ _ _ hk hf => OpOk.m rfl hk.1
  ·intro ev X hT hb hk hf
   have e0 : ev (.tmp 31) = _ := hf.1
   have e1 : ev (.tmp 32) = _ := hf.2.1
   have e2 : ev (.tmp 33) = _ := hf.2.2.1
   exact OpOk.run (v := .slice (some ⟨X.heap.size, 0, .none⟩) 3 3) (W' := X.alloc (.cells #[.slice (some ⟨g9, 0, .none⟩) 32 32, .slice (some ⟨p7, 0, .none⟩) 32 32, .slice ma m.length mc] 56)) (by simp [execOp, e0, e1, e2, run_rr3]) ⟨rows_three (HlR.out X g9 _ _ ((H9.out.below hT))) (HlP.out X p7 _ _ ((H9.out.below hT).right.right)) (HM.out.below (all_below (H9.out.below hT).right.right.right.right.right.right.right (S9.out.trans (Str.below hT)))) 56, (Below.refl X.heap.size X).alloc (Nat.le_refl _) _⟩
  ·intro ev X hT hb hk hf
   have e0 : IsRows X (ev (.tmp 34)) [lR, lP, m] := hf.1
   have e0 : IsRows X (ev (.tmp 34)) [lR, lP, m] := hf.1
   exact OpOk.c (by simp [execOp, resolve, invoke, hb.1, hb.2.1, go_sem]) (hk8.out _ X e0)
  ·intro ev X hT hb hk hf
   exact OpOk.al hT.size (by simp [execOp, hzL, go_sem])
 intro w10 hX
 rintro _ rfl _ rfl _ rfl _ - _ rfl _ ⟨g10, rfl, hgg10, hcg10⟩
 have H10 := hide (on_fresh H9.out hX hgg10 hcg10)
 have S10 := hide (S9.out.trans (Str.below hX))
 clear hX H9 S9 hgg10 hcg10
 go_wp2
 refine Rest.done ?_
 have H11 := hide (st0 H10.out (cs := Kn))
 have S11 := hide (S10.out.setRow (g10) Kn)
 have gW := on_blk_mul H10.out
 have gL := on_blk_mul H11.out.right.right.right.right
 go_wp2_with (first
  | (refine wS gW HsKn HzKn HoKn ?_)
  | (refine wL gL hu4 HsNn ?_))
 clear gL
 generalize w10.setRow (g10) Kn = w11 at *
 clear gW H10 S10
 refine (hk9.out _).mono ?_
 rintro e w12 ⟨rfl, hB⟩
 obtain ⟨H12, S12⟩ := nx H11.out S11.out hB
 clear hB H11 S11
 obtain ⟨gN, gM, H13, S13⟩ := newV H12.out S12.out ZB Nb 38
 go_wp2_with (first
  | (refine wS gN HsNb HzNb HoNb ?_))
 generalize (w12.alloc (.cells ZB 38)).setRow w12.heap.size Nb = w13 at *
 clear gN gM H12 S12
 generalize w12.heap.size = p11 at *
 refine wp_tail 8 [isV (.agg Rn), isV (.agg Kn), isV (.slice (some ⟨p11, 0, .none⟩) 32 32), isV (.agg Ng), isV (.agg Mg), isV (.agg Tn), isV (.agg Tb), Fresh w13.heap.size (.cells ZB 38 (0, 0))] ?keep ?todo ?r116
 case keep => exact ⟨Keep.isV _, Keep.isV _, Keep.isV _, Keep.isV _, Keep.isV _, Keep.isV _, Keep.isV _, Fresh.keep, trivial⟩
 case todo =>
  refine ⟨?_, ?_, ?_, ?_, ?_, ?_, ?_, ?_, trivial⟩
  ·exact fun ev X hT hb hk hf => OpOk.l (x := .tmp 8) hk.1 (on_blk_mul (H13.out.below hT).right.right.right) hu4 HsRn.out
  ·exact fun ev X hT hb hk hf => OpOk.l (x := .tmp 10) hk.1 (on_blk_mul (H13.out.below hT).right) hu4 HsKn.out
  ·intro ev X hT hb hk hf
   have e0 : ev (.tmp 11) = .pointer (some ⟨p11, 0, .none⟩) := hk.1
   exact OpOk.r (by simp [execOp, e0, hub, go_sem])
  ·intro ev X hT hb hk hf
   have e0 : ev (.tmp 40) = _ := hf.1
   exact OpOk.c (by simp [execOp, resolve, invoke, e0, hb.1, hb.2.1, go_sem]) (hk10.out _ X (HlN.out X p11 _ _ ((H13.out.below hT))))
  ·intro ev X hT hb hk hf
   have e0 : ev (.tmp 39) = _ := hf.1
   have e1 : ev (.tmp 41) = _ := hf.2.1
   exact OpOk.c (by simp [execOp, resolve, invoke, e0, e1, hb.1, hb.2.1, go_sem]) (hk11.out X)
  ·intro ev X hT hb hk hf
   have e0 : ev (.tmp 38) = _ := hf.1
   have e1 : ev (.tmp 42) = _ := hf.2.1
   exact OpOk.c (by simp [execOp, resolve, invoke, e0, e1, hb.1, hb.2.1, go_sem]) (hk12.out X)
  ·intro ev X hT hb hk hf
   have e0 : ev (.tmp 43) = _ := hf.1
   exact OpOk.c (by simp [execOp, resolve, invoke, e0, hb.1, hb.2.1, go_sem]) (hk13.out X)
  ·intro ev X hT hb hk hf
   exact OpOk.al hT.size (by simp [execOp, hzB, go_sem])
 intro w14 hX
 rintro _ rfl _ rfl _ rfl _ rfl _ rfl _ rfl _ rfl _ ⟨g12, rfl, hgg12, hcg12⟩
 have H14 := hide (on_fresh H13.out hX hgg12 hcg12)
 have S14 := hide (S13.out.trans (Str.below hX))
 clear hX H13 S13 hgg12 hcg12
 go_wp2
 refine Rest.done ?_
 have H15 := hide (st0 H14.out (cs := Tb))
 have S15 := hide (S14.out.setRow (g12) Tb)
 have gW := on_blk_mul H14.out
 have h9 := H15.out
 rw [show (blk (g12) (.cells Tb 38 (0, 0)) * (blk (p11) (.cells Nb 38 (0, 0)) * (blk (g10) (.cells Kn 23 (0, 0)) * (blk (g9) (.cells Rb 38 (0, 0)) * (blk (p8) (.cells Rn 23 (0, 0)) * (blk (p7) (.cells Pb 38 (0, 0)) * (blk (p5) (.cells Nn 23 (0, 0)) * (own 5 1 (.slice (some ⟨og, 0, .none⟩) 64 oc) 64 (vbs cl) * (blk (w.heap.size + 1) (.cells ZH 61 (0, 0)) * (blk (w.heap.size) (.cells Ss 38 (0, 0)) * all w)))))))))) = (blk (p11) (.cells Nb 38 (0, 0)) * (blk (g10) (.cells Kn 23 (0, 0)) * (blk (p8) (.cells Rn 23 (0, 0)) * (blk (p7) (.cells Pb 38 (0, 0)) * (blk (p5) (.cells Nn 23 (0, 0)) * (own 5 1 (.slice (some ⟨og, 0, .none⟩) 64 oc) 64 (vbs cl) * (blk (g12) (.cells Tb 38 (0, 0)) * (blk (g9) (.cells Rb 38 (0, 0)) * (blk (w.heap.size + 1) (.cells ZH 61 (0, 0)) * (blk (w.heap.size) (.cells Ss 38 (0, 0)) * all w)))))))))) by ac_rfl] at h9
 have h8 : (blk (g12) (.cells Tb 38 (0, 0)) * (blk (g9) (.cells Rb 38 (0, 0)) * (blk (w.heap.size + 1) (.cells ZH 61 (0, 0)) * (blk (w.heap.size) (.cells Ss 38 (0, 0)) * all w)))).on _ := SP.on.right (SP.on.right (SP.on.right (SP.on.right (SP.on.right (SP.on.right (h9))))))
 clear h9
 have h7 := h8.alloc (.cells ZH 61)
 have sz : (w14.setRow g12 Tb).heap.size = w14.heap.size := by simp [World.setRow]
 rw [sz] at h7
 have H16 := hide h7
 have S16 := hide (S15.out.alloc (.cells ZH 61))
 clear h7 h8 sz
 go_wp2_with (first
  | (refine wS gW HsTb HzTb HoTb ?_))
 generalize (w14.setRow (g12) Tb).alloc (.cells ZH 61) = w16 at *
 generalize w14.heap.size = p13 at *
 clear gW H14 S14 H15 S15
 go_loopw [14] (fun i wr => ∃ k : Nat, k ≤ 32 ∧ i = .int .i64 k ∧ (blk p13 (.cells (zb (oL lR lT k)) 61 (0, 0)) * (blk (g12) (.cells Tb 38 (0, 0)) * (blk (g9) (.cells Rb 38 (0, 0)) * (blk (w.heap.size + 1) (.cells ZH 61 (0, 0)) * (blk (w.heap.size) (.cells Ss 38 (0, 0)) * all w))))).on wr ∧ Str w wr) (fun i _ => 32 - (intOf i).toNat)
 case atStart => exact ⟨0, by omega, rfl, by rw [Hbeg.out]; exact H16.out, S16.out⟩
 case round =>
  obtain ⟨k, hk, rfl, hX, hS2⟩ := hrel
  have HXk := hide hX
  have HSk := hide hS2
  clear hX hS2 H16 S16
  by_cases hlt : k < 32
  ·obtain ⟨x, hx⟩ : ∃ x, lR[k]? = some x := ⟨_, List.getElem?_eq_getElem (by rw [HlenR.out]; exact hlt)⟩
   obtain ⟨y, hy⟩ : ∃ y, lT[k]? = some y := ⟨_, List.getElem?_eq_getElem (by rw [HlenT.out]; exact hlt)⟩
   obtain ⟨ox, hox⟩ := oL_get lR lT k k HlenR.out HlenT.out (by omega) (by omega)
   obtain ⟨oy, hoy⟩ := oL_get lR lT k (32 + k) HlenR.out HlenT.out (by omega) (by omega)
   have hcx := (cell_of_row wr g9 k _ _ _ (on_blk_mul (SP.on.right (SP.on.right HXk.out)))).trans (HcR.out k x hx)
   have hc1 := zbCell HXk.out k ox hox
   have hfr1 := frozen_of_row wr p13 k _ _ (on_blk_mul HXk.out)
   have h1 := zbSet HXk.out k x
   have hcy := (cell_of_row _ g12 k _ _ _ (on_blk_mul (SP.on.right h1))).trans (HcT.out k y hy)
   have hoy2 : ((oL lR lT k).set k x)[32 + k]? = some oy := by rw [List.getElem?_set_ne (by omega)]; exact hoy
   have hc2 := zbCell h1 (32 + k) oy hoy2
   have hfr2 := frozen_of_row _ p13 (32 + k) _ _ (on_blk_mul h1)
   have h2 := zbSet h1 (32 + k) y
   rw [oL_step lR lT k x y hx hy hlt] at h2
   have HN := hide h2
   have hk32 : (k : Int) < 32 := by omega
   have hk64 : (k : Int) < 64 := by omega
   have s1 : IntKind.i64.wrap (32 + (k : Int)) = ((32 + k : Nat) : Int) := by rw [IntWalk.i64_in _ (by omega)]; omega
   have hj64 : ((32 + k : Nat) : Int) < 64 := by omega
   obtain ⟨q, hq⟩ : ∃ q, q = 32 + k := ⟨_, rfl⟩
   rw [← hq] at s1 hj64 hc2 hfr2 HN
   have s2 : (32 + (k : Int)) = (q : Int) := by omega
   clear h1 h2 hx hy hox hoy hoy2 hq
   go_wp2_with fail
   exact ⟨⟨k + 1, by omega, by simp, HN.out, (HSk.out.setCell _ _).setCell _ _⟩, by simp [intOf]; omega⟩
  ·obtain rfl : k = 32 := by omega
   rw [Hend.out] at HXk
   have g0 := on_blk_mul HXk.out
   have gR := on_blk_mul (SP.on.right (SP.on.right (SP.on.right HXk.out)))
   have HB := hide (all_below (SP.on.right (SP.on.right (SP.on.right (SP.on.right (SP.on.right HXk.out))))) HSk.out)
   go_wp2_with (first
    | (refine wS gR HsGs HzGs HoGs ?_)
    | (refine wL g0 huh HsGs ?_))
   exact retR Tryd.results32 gR huh HsGs.out rfl HB.out (by omega)
end Cv
end Go.Proofs.YtbplbdnofobbiaaDoor
