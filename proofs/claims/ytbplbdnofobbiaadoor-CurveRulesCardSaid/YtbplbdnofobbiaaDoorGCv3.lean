/- LAID TOGETHER: Cv18, Cv19, CvLaw. -/
import Derived.Test.YtbplbdnofobbiaaDoorCv17
import Derived.Test.YtbplbdnofobbiaaDoorFeLaw
import Derived.Lib.LaidTab
import Derived.LaidSub
import Derived.MakeChecks
/- the document's base point; the law's 'points' and 'lives'. -/
namespace Go.Proofs.YtbplbdnofobbiaaDoor
namespace Cv
open Fe
open Go.ChangeShapes Go.WideShapes Go.ChangeAt Go.RowKit
set_option linter.unusedVariables false
set_option linter.unusedSimpArgs false

/-- a point by three numbers, as it is decoded -/
def tOf (p : Ed.Pt) : Ed.Tp := ⟨p.x, p.y, 1⟩
theorem tOf_has (p : Ed.Pt) : (tOf p).has p := ⟨Ed.one_ne, (Ed.q_one p.x p.y).1, (Ed.q_one p.x p.y).2.1⟩
theorem tOf_cells (p : Ed.Pt) : tpC (tOf p) = mC p.x.val p.y.val 1 := by
  unfold tpC tOf
  rw [Ed.one_val]
theorem decW_pt (p : Ed.Pt) (n : Nat) (h : bl n = Ed.enc p) : decW n = .tuple #[.agg (tpC (tOf p)), .bool true] := by
  unfold decW
  rw [h, Ed.dec_enc, tOf_cells]
def bbN : List UInt8 := List.replicate 32 102
theorem bb_enc : (bbN.set 0 88) = bl Ed.byN := by decide +kernel
theorem base_enc : Ed.enc Ed.Pt.base = bl Ed.byN := by
  have hx : Ed.Pt.base.x.val = Ed.bxN := Ed.el_val _ (by decide)
  have hy : Ed.Pt.base.y.val = Ed.byN := Ed.el_val _ (by decide)
  unfold Ed.enc
  rw [hx, hy]
  exact congrArg bl (if_neg (by decide))
theorem results_two {fn : Func} {p q : Tmp} {ty ty2 : TypeId} (h : fn.results = #[.cell p ty, .cell q ty2]) (tmps : Array Value) (w : World) (g g2 : Nat) (cs cs2 : Array Value)
    (hp : tmps.getD p undef = .pointer (some ⟨g, 0, Option.none⟩)) (h1 : (loadVar ty ⟨g, 0, Option.none⟩).run Tryd.prog w = .ok (.agg cs) w)
    (hq : tmps.getD q undef = .pointer (some ⟨g2, 0, Option.none⟩)) (h2 : (loadVar ty2 ⟨g2, 0, Option.none⟩).run Tryd.prog w = .ok (.agg cs2) w) :
    (results fn tmps).run Tryd.prog w = .ok (.tuple #[.agg cs, .agg cs2]) w := by
  have hp' : tmps[p]?.getD undef = .pointer (some ⟨g, 0, Option.none⟩) := by simpa using hp
  have hq' : tmps[q]?.getD undef = .pointer (some ⟨g2, 0, Option.none⟩) := by simpa using hq
  simp [results, h, hp', hq', asAddr, h1, h2]
set_option maxRecDepth 100000 in
set_option maxHeartbeats 8000000 in
theorem mbase_any (w : World) : Calls Tryd.prog 36 #[] w fun e w' => e = .returned (.agg (tpC (tOf Ed.Pt.base))) ∧ Below w.heap.size w w' := by
  have hum := Tryd.underlying31
  have hub := Tryd.underlying38
  have hzM := mZero
  have hzB := zBZero
  have h0 := (on_all w).alloc (.cells (mC 0 0 0) 31)
  have s0 := (Str.refl w).alloc (.cells (mC 0 0 0) 31)
  try simp only [World.size_alloc] at h0
  have H1 := hide h0
  have S1 := hide s0
  clear h0 s0
  have hd := fun X => mdecode_any Ed.byN (by decide +kernel) X
  rw [decW_pt Ed.Pt.base Ed.byN base_enc.symm] at hd
  have Hd := hide hd
  have HsR := hide (mInfo Ed.Pt.base.x.val Ed.Pt.base.y.val 1)
  have HoR := hide (mC_one Ed.Pt.base.x.val Ed.Pt.base.y.val 1)
  have HzR := hide (mSize 0 0 0 Ed.Pt.base.x.val Ed.Pt.base.y.val 1)
  rw [← tOf_cells] at HsR HoR HzR
  have HsBb := hide (zBInfo Ed.byN)
  have hset := zb_set bbN 0 88
  rw [bb_enc] at hset
  have Hset : Hid ((zb bbN).setIfInBounds 0 (.int .u8 88) = zB Ed.byN) := hide hset
  have Hz0 : Hid (zB 0 = zb (bbN.take 0 ++ (List.replicate 32 0).drop 0)) := hide (by unfold zB; rw [bl_0]; rfl)
  clear hd hset
  generalize hvZm : mC 0 0 0 = Zm at *
  clear hvZm
  generalize hvZB : zB 0 = ZB at *
  clear hvZB
  generalize tpC (tOf Ed.Pt.base) = Rp at *
  generalize zB Ed.byN = Bb at *
  go_enter Tryd.func36, Tryd.ntmps36
  refine wp_seq_h fun K1 hK1 => ?_
  go_wp2_with fail
  refine hK1.out _ _ ?_
  clear hK1 K1
  generalize w.alloc (.cells Zm 31) = w1 at *
  have hN := H1.out.alloc (.cells ZB 38)
  have H2 := hide hN
  have S2 := hide (S1.out.alloc (.cells ZB 38))
  clear hN H1 S1
  go_wp2_with fail
  generalize w1.alloc (.cells ZB 38) = w2 at *
  generalize w1.heap.size = p1 at *
  go_loopw [2] (fun i wr => ∃ k : Nat, k ≤ 32 ∧ i = .int .i64 k ∧ (blk p1 (.cells (zb (bbN.take k ++ (List.replicate 32 0).drop k)) 38 (0, 0)) * (blk (w.heap.size) (.cells Zm 31 (0, 0)) * all w)).on wr ∧ Str w wr) (fun i _ => 32 - (intOf i).toNat)
  case atStart => exact ⟨0, by omega, rfl, by rw [← Hz0.out]; exact H2.out, S2.out⟩
  case round =>
    obtain ⟨k, hk, rfl, hX, hS2⟩ := hrel
    have H20 := hide hX
    have S20 := hide hS2
    clear hX hS2 H2 S2
    by_cases hlt : k < 32
    · have hset2 := set_takeN bbN (List.replicate 32 0) k 102 (by unfold bbN; rw [List.getElem?_replicate, if_pos hlt]) (by simp; omega)
      have hst := SP.on.setCell (i := k) H20.out (vb 102)
      rw [show (zb (bbN.take k ++ (List.replicate 32 0).drop k)).setIfInBounds k (vb 102) = zb ((bbN.take k ++ (List.replicate 32 0).drop k).set k 102) from zb_set _ _ _, hset2] at hst
      have HN := hide hst
      obtain ⟨old, hold⟩ : ∃ v, wr.cell? ⟨p1, k, Option.none⟩ = some v := by
        have hl : k < (bbN.take k ++ (List.replicate 32 0).drop k).length := by rw [List.length_append, List.length_take, List.length_drop]; simp [bbN]; omega
        exact ⟨_, (cell_of_row wr p1 k _ _ _ (on_blk_mul H20.out)).trans (by unfold zb; rw [List.getElem?_toArray]; exact vbs_get _ k hl)⟩
      have hfr := frozen_of_row wr p1 k _ _ (on_blk_mul H20.out)
      have hk32 : (k : Int) < 32 := by omega
      clear hst hset2 H20
      go_wp2_with fail
      exact ⟨⟨k + 1, by omega, by simp, HN.out, S20.out.setCell _ _⟩, by simp [intOf]; omega⟩
    · obtain rfl : k = 32 := by omega
      have e4 : bbN.take 32 ++ (List.replicate 32 0).drop 32 = bbN := by decide
      rw [e4] at H20
      have hst := SP.on.setCell (i := 0) H20.out (.int .u8 88)
      rw [Hset.out] at hst
      obtain ⟨old, hold⟩ : ∃ v, wr.cell? ⟨p1, 0, Option.none⟩ = some v := ⟨vb 102, (cell_of_row wr p1 0 _ _ _ (on_blk_mul H20.out)).trans rfl⟩
      have hfr := frozen_of_row wr p1 0 _ _ (on_blk_mul H20.out)
      have H21 := hide hst
      have S21 := hide (S20.out.setCell ⟨p1, 0, Option.none⟩ (.int .u8 88))
      have gB := on_blk_mul H21.out
      clear hst e4
      go_wp2_with (first
        | (refine wpList_load_row rfl _ _ rfl (p1) rfl _ Bb _ _ gB hub rfl HsBb.out ?_))
      clear gB hold hfr
      generalize wr.setCell ⟨p1, 0, Option.none⟩ (.int .u8 88) = w21 at *
      refine (Hd.out _).mono ?_
      rintro e w22 ⟨rfl, hB⟩
      have H22 := hide (H21.out.below hB)
      have S22 := hide (S21.out.trans (Str.below hB))
      clear hB H21 S21
      have HsRp := HsR
      have HoRp := HoR
      have HzRp := HzR
      have hN := H22.out.alloc (.cells Zm 31)
      have gN := on_blk_mul hN
      have hM := hN.setRow Rp
      have gM := on_blk_mul hM
      have H23 := hide hM
      have S23 := hide ((S22.out.alloc (.cells Zm 31)).setRow w22.heap.size Rp)
      clear hN hM
      have gL := on_blk_mul H23.out
      have gR := on_blk_mul H23.out.right.right
      have HB := hide (all_below H23.out.right.right.right S23.out)
      go_wp2_with (first
        | (refine wpList_store_row rfl _ _ _ rfl (w.heap.size) Rp rfl rfl _ _ gR HsRp.out HzRp.out HoRp.out ?_)
        | (refine wpList_store_row rfl _ _ _ rfl (w22.heap.size) Rp rfl rfl _ _ gN HsRp.out HzRp.out HoRp.out ?_)
        | (refine wpList_load_row rfl _ _ rfl (w22.heap.size) rfl _ Rp _ _ gL hum rfl HsRp.out ?_))
      exact bodyPost_ret (v := .agg Rp) (results_cell_row Tryd.results36 _ _ (w.heap.size) _ Rp (0, 0) _ rfl (setRow_heap_same _ _ _ _ _ _ gR) hum rfl HsRp.out) rfl ⟨rfl, below_setRow HB.out (by omega) _⟩
end Cv
end Go.Proofs.YtbplbdnofobbiaaDoor

/- the curve's laws: 'lives', 'points', the tables, and CurveSums. -/
namespace Go.Proofs.YtbplbdnofobbiaaDoor
namespace Cv
open Fe
open Go.ChangeShapes Go.WideShapes Go.ChangeAt Go.RowKit
set_option linter.unusedVariables false
set_option linter.unusedSimpArgs false

theorem ptimes_pt (p : Ed.Pt) (n : Nat) (hn : n < 2 ^ 256) (w : World) (hT : TabC w) :
    Calls Tryd.prog 23 #[.agg (ptC p), .agg (q4 n)] w fun e w' => e = .returned (.agg (ptC (p.mul n))) ∧ Below w.heap.size w w' := ptimes_any _ _ p (PtIs.self p) n hn w hT
theorem pencode_pt (p : Ed.Pt) (w : World) :
    Calls Tryd.prog 15 #[.agg (ptC p)] w fun e w' => e = .returned (.agg (zb (Ed.enc p))) ∧ Below w.heap.size w w' := pencode_any _ _ p (PtIs.self p) w
theorem psame_pt (p q : Ed.Pt) (w : World) :
    Calls Tryd.prog 18 #[.agg (ptC p), .agg (ptC q)] w fun e w' => e = .returned (.bool (decide (p = q))) ∧ Below w.heap.size w w' := psame_any _ _ p (PtIs.self p) _ _ q (PtIs.self q) w
theorem pneg_pt (p : Ed.Pt) (w : World) (hT : TabC w) :
    Calls Tryd.prog 12 #[.agg (ptC p)] w fun e w' => e = .returned (.agg (ptC p.neg)) ∧ Below w.heap.size w w' := by
  have h := pneg_any p.x.val p.y.val p.x.isLt p.y.isLt w hT
  rw [(PtIs.self p).ye, ← Ed.val_neg] at h
  exact h
section
variable {F : Type} [Lean.Grind.CommRing F]
theorem neg_times (x z : F) : -(x * z) = -x * z := by grind
end
theorem Tp_neg_has {s : Ed.Tp} {p : Ed.Pt} (h : s.has p) : Ed.Tp.has ⟨-s.x, s.y, s.z⟩ p.neg := by
  refine ⟨h.zn, ?_, h.ye⟩
  show -s.x = -p.x * s.z
  rw [h.xe]
  exact neg_times p.x s.z
theorem enc_base_zb : zb (Ed.enc Ed.Pt.base) = zB Ed.byN := by rw [base_enc]; rfl
theorem enc_none_zb : zb (Ed.enc Ed.Pt.none) = zB 1 := by
  unfold Ed.enc
  rw [show Ed.Pt.none.x.val = 0 from Ed.zero_val, show Ed.Pt.none.y.val = 1 from Ed.one_val]
  rfl
theorem zB_cells : (zB Ed.byN)[0]? = some (.int .u8 88) ∧ (zB Ed.byN)[1]? = some (.int .u8 102) ∧ (zB Ed.byN)[31]? = some (.int .u8 102) ∧ (zB 1)[0]? = some (.int .u8 1) := by
  refine ⟨zb_get _ _ 88 (by decide +kernel), zb_get _ _ 102 (by decide +kernel), zb_get _ _ 102 (by decide +kernel), zb_get _ _ 1 (by decide +kernel)⟩
set_option maxRecDepth 100000 in
set_option maxHeartbeats 8000000 in
theorem clives_any (w : World) (hT : TabC w) : Calls Tryd.prog 9 #[] w fun e w' => e = .returned (.bool true) ∧ Below w.heap.size w w' := by
  have hub := Tryd.underlying38
  have hzB := zBZero
  have h0 := on_all w
  have s0 := Str.refl w
  try simp only [World.size_alloc] at h0
  have H1 := hide h0
  have S1 := hide s0
  clear h0 s0
  have hTab := hide hT
  have k1 := fun X h => base_pt X h
  have k2 := fun X => pencode_pt Ed.Pt.base X
  have k3 := fun X => none_pt X
  have k4 := fun X => pencode_pt Ed.Pt.none X
  rw [enc_base_zb] at k2
  rw [enc_none_zb] at k4
  obtain ⟨c0, c1, c31, o0⟩ := zB_cells
  have hk1 := hide k1
  have hk2 := hide k2
  have hk3 := hide k3
  have hk4 := hide k4
  have C0 := hide c0
  have C1 := hide c1
  have C31 := hide c31
  have O0 := hide o0
  clear k1 k2 k3 k4 c0 c1 c31 o0
  have HsBb := hide (zBInfo Ed.byN)
  have HoBb := hide (zBOne Ed.byN)
  have HzBb := hide (zBSize 0 Ed.byN)
  have HsBo := hide (zBInfo 1)
  have HoBo := hide (zBOne 1)
  have HzBo := hide (zBSize 0 1)
  generalize hvBb : zB Ed.byN = Bb at *
  clear hvBb
  generalize hvBo : zB 1 = Bo at *
  clear hvBo
  generalize hvZB : zB 0 = ZB at *
  clear hvZB
  generalize ptC Ed.Pt.base = PB at *
  generalize ptC Ed.Pt.none = PN at *
  go_enter Tryd.func9, Tryd.ntmps9
  refine wp_seq_h fun K1 hK1 => ?_
  go_wp2_with fail
  refine hK1.out _ _ ?_
  clear hK1 K1
  generalize w = w1 at *
  refine wp_seq_h fun K2 hK2 => ?_
  have hT0 := hide (hTab.out.below (all_below H1.out S1.out))
  refine wp_region_seq 3 [isV (.agg PB), isV (.agg Bb), Fresh w1.heap.size (.cells ZB 38 (0, 0))]
    (by simp only [List.take_succ_cons, List.take_zero]; rfl) (by simp only [List.drop_succ_cons, List.drop_zero]; rfl) (by kernel_rfl) (by kernel_rfl) (by kernel_rfl) (by decide) rfl ?keep ?todo ?rest
  case keep => exact ⟨Keep.isV _, Keep.isV _, Fresh.keep, trivial⟩
  case todo =>
    refine ⟨?_, ?_, ?_, trivial⟩
    · intro ev X hT hb hk hf
      refine OpOk.enters (f := 27) (args := #[]) (W' := X) (by simp [execOp, resolve, invoke, hb.1, hb.2.1, go_sem]) ((hk1.out X (hT0.out.below hT)).mono ?_)
      rintro e _ ⟨rfl, hB⟩
      exact ⟨_, rfl, rfl, hB⟩
    · intro ev X hT hb hk hf
      have e0 : ev (.tmp 2) = .agg PB := hf.1
      refine OpOk.enters (f := 15) (args := #[.agg PB]) (W' := X) (by simp [execOp, resolve, invoke, e0, hb.1, hb.2.1, go_sem]) ((hk2.out X).mono ?_)
      rintro e _ ⟨rfl, hB⟩
      exact ⟨_, rfl, rfl, hB⟩
    · intro ev X hT hb hk hf
      exact OpOk.run (v := .pointer (some ⟨X.heap.size, 0, Option.none⟩)) (W' := X.alloc (.cells ZB 38)) (by simp [execOp, hzB, go_sem]) ⟨⟨X.heap.size, rfl, hT.size, heap_alloc_new X _⟩, (Below.refl X.heap.size X).alloc (Nat.le_refl _) _⟩
  case rest =>
    intro w2 hX
    rintro _ rfl _ rfl _ ⟨g1, rfl, hgg1, hcg1⟩
    have H2 := hide (on_fresh H1.out hX hgg1 hcg1)
    have S2 := hide (S1.out.trans (Str.below hX))
    clear hX H1 S1 hgg1 hcg1
    clear hT0
    go_wp2
    refine Rest.done ?_
    have H3 := hide (st0 H2.out (cs := Bb))
    have S3 := hide (S2.out.setRow (g1) Bb)
    have gW := on_blk_mul H2.out
    go_wp2_with (first
      | (refine wpList_store_row rfl _ _ _ rfl (g1) Bb rfl rfl _ _ gW HsBb.out HzBb.out HoBb.out ?_))
    refine hK2.out _ _ ?_
    clear hK2 K2
    generalize w2.setRow (g1) Bb = w3 at *
    clear gW H2 S2
    have hc0 := (cell_of_row w3 g1 0 Bb _ _ (on_blk_mul H3.out)).trans C0.out
    have hc1 := (cell_of_row w3 g1 1 Bb _ _ (on_blk_mul H3.out)).trans C1.out
    have hc31 := (cell_of_row w3 g1 31 Bb _ _ (on_blk_mul H3.out)).trans C31.out
    go_wp2_with fail
    refine (hk3.out _).mono ?_
    rintro e w4 ⟨rfl, hB⟩
    have H4 := hide (H3.out.below hB)
    have S4 := hide (S3.out.trans (Str.below hB))
    clear hB H3 S3
    go_wp2_with fail
    refine (hk4.out _).mono ?_
    rintro e w5 ⟨rfl, hB⟩
    have H5 := hide (H4.out.below hB)
    have S5 := hide (S4.out.trans (Str.below hB))
    clear hB H4 S4
    have hix : (Instr.index 38 (.agg Bo) (.int .i64 0)).run Tryd.prog w5 = .ok (.int .u8 1) w5 := run_index_one (P := Tryd.prog) w5 38 5 32 Bo 0 (.int .u8 1) .u8 hub Tryd.underlying5 (by kernel_rfl) (by decide) O0.out
    have HB := hide (all_below H5.out.right S5.out)
    go_wp2_with fail
    go_ret
    exact ⟨rfl, HB.out⟩
set_option maxRecDepth 100000 in
set_option maxHeartbeats 8000000 in
theorem points_any (n : Nat) (hn : n < 18446744073709551616 ^ 4) (w : World) (hT : TabC w) :
    Calls Tryd.prog 10 #[.agg (q4 n)] w fun e w' => e = .returned (.tuple #[.agg (ptC (Ed.Pt.base.mul n)), .agg (tpC (Ed.Tp.times (tOf Ed.Pt.base) n 256))]) ∧ Below w.heap.size w w' := by
  have hu4 := Tryd.underlying23
  have hup := Tryd.underlying27
  have hum := Tryd.underlying31
  have hun := Tryd.underlying29
  have hzL := eZero4
  have hzP := pZero
  have hzM := mZero
  have hzN := nZero
  have h0 := (((on_all w).alloc (.cells (q4 n) 23)).alloc (.cells (pC 0 0) 27)).alloc (.cells (mC 0 0 0) 31)
  have s0 := (((Str.refl w).alloc (.cells (q4 n) 23)).alloc (.cells (pC 0 0) 27)).alloc (.cells (mC 0 0 0) 31)
  try simp only [World.size_alloc] at h0
  have H1 := hide h0
  have S1 := hide s0
  clear h0 s0
  have hTab := hide hT
  have h256 : 18446744073709551616 ^ 4 = 2 ^ 256 := by decide +kernel
  have hk1 := hide (fun X h => base_pt X h)
  have hk2 := hide (fun X h => ptimes_pt Ed.Pt.base n (by rw [← h256]; exact hn) X h)
  have hk3 := hide (fun X => mbase_any X)
  have hk4 := hide (fun X => md_any X)
  have hk5 := hide (fun X => mtimes_any (tOf Ed.Pt.base) n hn X)
  have HsPM := hide (ptInfo (Ed.Pt.base.mul n))
  have HoPM := hide (ptOne (Ed.Pt.base.mul n))
  have HzPM := hide (ptZ (Ed.Pt.base.mul n))
  have HsTM := hide (tpInfo (Ed.Tp.times (tOf Ed.Pt.base) n 256))
  have HoTM := hide (tpOne (Ed.Tp.times (tOf Ed.Pt.base) n 256))
  have HzTM := hide (tpZ (Ed.Tp.times (tOf Ed.Pt.base) n 256))
  clear hn h256
  have HsNb := hide (eInfo4 n)
  have HoNb := hide (eOne n)
  have HzNb := hide (eSize 0 n)
  generalize hvNb : q4 n = Nb at *
  clear hvNb
  generalize hvZ4 : q4 0 = Z4 at *
  clear hvZ4
  generalize hvZp : pC 0 0 = Zp at *
  clear hvZp
  generalize hvZm : mC 0 0 0 = Zm at *
  clear hvZm
  generalize hvZn : n17 0 = Zn at *
  clear hvZn
  generalize ptC (Ed.Pt.base.mul n) = PM at *
  generalize tpC (Ed.Tp.times (tOf Ed.Pt.base) n 256) = TM at *
  generalize ptC Ed.Pt.base = PB at *
  generalize tpC (tOf Ed.Pt.base) = TB at *
  generalize n17 Ed.dN = Dd at *
  go_enter Tryd.func10, Tryd.ntmps10
  refine wp_seq_h fun K3 hK3 => ?_
  go_wp2_with fail
  refine hK3.out _ _ ?_
  clear hK3 K3
  generalize ((w.alloc (.cells Nb 23)).alloc (.cells Zp 27)).alloc (.cells Zm 31) = w1 at *
  refine wp_seq_h fun K4 hK4 => ?_
  have hT0 := hide (hTab.out.below (all_below H1.out.right.right.right S1.out))
  refine wp_region_tail 7 [isV (.agg PB), isV (.agg Nb), isV (.agg PM), isV (.agg TB), isV (.agg Nb), isV (.agg Dd), isV (.agg TM)]
    (by simp only [List.take_succ_cons, List.take_zero]; rfl) (by simp only [List.drop_succ_cons, List.drop_zero]; rfl) (by kernel_rfl) (by kernel_rfl) (by kernel_rfl) (by decide) rfl ?keep ?todo ?rest
  case keep => exact ⟨Keep.isV _, Keep.isV _, Keep.isV _, Keep.isV _, Keep.isV _, Keep.isV _, Keep.isV _, trivial⟩
  case todo =>
    refine ⟨?_, ?_, ?_, ?_, ?_, ?_, ?_, trivial⟩
    · intro ev X hT hb hk hf
      refine OpOk.enters (f := 27) (args := #[]) (W' := X) (by simp [execOp, resolve, invoke, hb.1, hb.2.1, go_sem]) ((hk1.out X (hT0.out.below hT)).mono ?_)
      rintro e _ ⟨rfl, hB⟩
      exact ⟨_, rfl, rfl, hB⟩
    · intro ev X hT hb hk hf
      have e0 : ev (.tmp 1) = .pointer (some ⟨w.heap.size, 0, Option.none⟩) := hk.1
      exact OpOk.load_row _ _ rfl _ e0 _ Nb (0, 0) _ (on_blk_mul (H1.out.below hT).right.right) hu4 rfl HsNb.out ⟨rfl, Stay.refl _⟩
    · intro ev X hT hb hk hf
      have e0 : ev (.tmp 4) = .agg PB := hf.1
      have e1 : ev (.tmp 5) = .agg Nb := hf.2.1
      refine OpOk.enters (f := 23) (args := #[.agg PB, .agg Nb]) (W' := X) (by simp [execOp, resolve, invoke, e0, e1, hb.1, hb.2.1, go_sem]) ((hk2.out X (hT0.out.below hT)).mono ?_)
      rintro e _ ⟨rfl, hB⟩
      exact ⟨_, rfl, rfl, hB⟩
    · intro ev X hT hb hk hf
      refine OpOk.enters (f := 36) (args := #[]) (W' := X) (by simp [execOp, resolve, invoke, hb.1, hb.2.1, go_sem]) ((hk3.out X).mono ?_)
      rintro e _ ⟨rfl, hB⟩
      exact ⟨_, rfl, rfl, hB⟩
    · intro ev X hT hb hk hf
      have e0 : ev (.tmp 1) = .pointer (some ⟨w.heap.size, 0, Option.none⟩) := hk.1
      exact OpOk.load_row _ _ rfl _ e0 _ Nb (0, 0) _ (on_blk_mul (H1.out.below hT).right.right) hu4 rfl HsNb.out ⟨rfl, Stay.refl _⟩
    · intro ev X hT hb hk hf
      refine OpOk.enters (f := 14) (args := #[]) (W' := X) (by simp [execOp, resolve, invoke, hb.1, hb.2.1, go_sem]) ((hk4.out X).mono ?_)
      rintro e _ ⟨rfl, hB⟩
      exact ⟨_, rfl, rfl, hB⟩
    · intro ev X hT hb hk hf
      have e0 : ev (.tmp 7) = .agg TB := hf.1
      have e1 : ev (.tmp 8) = .agg Nb := hf.2.1
      have e2 : ev (.tmp 9) = .agg Dd := hf.2.2.1
      refine OpOk.enters (f := 24) (args := #[.agg TB, .agg Nb, .agg Dd]) (W' := X) (by simp [execOp, resolve, invoke, e0, e1, e2, hb.1, hb.2.1, go_sem]) ((hk5.out X).mono ?_)
      rintro e _ ⟨rfl, hB⟩
      exact ⟨_, rfl, rfl, hB⟩
  case rest =>
    intro w2 hX
    rintro _ rfl _ rfl _ rfl _ rfl _ rfl _ rfl _ rfl
    have H2 := hide (H1.out.below hX)
    have S2 := hide (S1.out.trans (Str.below hX))
    clear hX H1 S1
    clear hT0
    go_wp2
    refine Rest.done ?_
    have hA := st1 H2.out (cs := PM)
    have gA := on_blk_mul H2.out.right
    have hB := st0 hA (cs := TM)
    have gB := on_blk_mul hA
    have SB := hide ((S2.out.setRow (w.heap.size + 1) PM).setRow (w.heap.size + 1 + 1) TM)
    have gP := on_blk_mul hB.right
    have gT := on_blk_mul hB
    have HB := hide (all_below hB.right.right.right SB.out)
    clear hA hB
    go_wp2_with (first
      | (refine wpList_store_row rfl _ _ _ rfl (w.heap.size + 1) PM rfl rfl _ _ gA HsPM.out HzPM.out HoPM.out ?_)
      | (refine wpList_store_row rfl _ _ _ rfl (w.heap.size + 1 + 1) TM rfl rfl _ _ gB HsTM.out HzTM.out HoTM.out ?_))
    refine hK4.out _ _ ?_
    clear hK4 K4
    go_wp2_with fail
    exact bodyPost_ret (v := .tuple #[.agg PM, .agg TM]) (results_two Tryd.results10 _ _ (w.heap.size + 1) (w.heap.size + 1 + 1) PM TM rfl (run_loadVar_row _ _ _ _ _ _ _ gP hup rfl HsPM.out) rfl (run_loadVar_row _ _ _ _ _ _ _ gT hum rfl HsTM.out)) rfl ⟨rfl, HB.out⟩
end Cv
end Go.Proofs.YtbplbdnofobbiaaDoor

/- the curve's laws: the tables from the row's condition; slices of points. -/
namespace Go.Proofs.YtbplbdnofobbiaaDoor
namespace Cv
open Fe
open Go.ChangeShapes Go.WideShapes Go.ChangeAt Go.RowKit
set_option linter.unusedVariables false
set_option linter.unusedSimpArgs false

set_option maxRecDepth 100000 in
theorem tc_x {W : World} (hL : laidMet Tryd.prog [("bosun/curve.baseX", Rows.laid_bosun_curve_baseX)] W) : Tb 0 Ed.bxN W := by
  have e1 : (Rows.laid_bosun_curve_baseX : DataW Unit) = Lib.tabData .u64 ((qs 4 Ed.bxN).map fun x : Nat => (x : Int)) := by
    rw [show qs 4 Ed.bxN = [14507833142362363162, 7578651490590762930, 13881468655802702940, 2407515759118799870] by decide +kernel]; kernel_rfl
  rw [e1] at hL
  have t1 := Lib.tabIs_of_head (g := 0) (t := 25) (e := 22) (n := 4) (by kernel_rfl) (by kernel_rfl) Tryd.underlying25 Tryd.underlying22 (by kernel_rfl) (by kernel_rfl) hL
  intro i hi
  have := t1.cell (g := 0) (by kernel_rfl) i (by rw [List.length_map, qs_len]; exact hi)
  rw [this, List.getD_eq_getElem?_getD, List.getElem?_map, qs_get 4 _ i hi]
  rfl
set_option maxRecDepth 100000 in
theorem tc_y {W : World} (hL : laidMet Tryd.prog [("bosun/curve.baseY", Rows.laid_bosun_curve_baseY)] W) : Tb 1 Ed.byN W := by
  have e1 : (Rows.laid_bosun_curve_baseY : DataW Unit) = Lib.tabData .u64 ((qs 4 Ed.byN).map fun x : Nat => (x : Int)) := by
    rw [show qs 4 Ed.byN = [7378697629483820632, 7378697629483820646, 7378697629483820646, 7378697629483820646] by decide +kernel]; kernel_rfl
  rw [e1] at hL
  have t1 := Lib.tabIs_of_head (g := 1) (t := 25) (e := 22) (n := 4) (by kernel_rfl) (by kernel_rfl) Tryd.underlying25 Tryd.underlying22 (by kernel_rfl) (by kernel_rfl) hL
  intro i hi
  have := t1.cell (g := 1) (by kernel_rfl) i (by rw [List.length_map, qs_len]; exact hi)
  rw [this, List.getD_eq_getElem?_getD, List.getElem?_map, qs_get 4 _ i hi]
  rfl
set_option maxRecDepth 100000 in
theorem tc_d {W : World} (hL : laidMet Tryd.prog [("bosun/curve.d", Rows.laid_bosun_curve_d)] W) : Tb 4 Ed.dN W := by
  have e1 : (Rows.laid_bosun_curve_d : DataW Unit) = Lib.tabData .u64 ((qs 4 Ed.dN).map fun x : Nat => (x : Int)) := by
    rw [show qs 4 Ed.dN = [8496970652267935907, 31536524315187371, 10144147576115030168, 5909686906226998899] by decide +kernel]; kernel_rfl
  rw [e1] at hL
  have t1 := Lib.tabIs_of_head (g := 4) (t := 25) (e := 22) (n := 4) (by kernel_rfl) (by kernel_rfl) Tryd.underlying25 Tryd.underlying22 (by kernel_rfl) (by kernel_rfl) hL
  intro i hi
  have := t1.cell (g := 4) (by kernel_rfl) i (by rw [List.length_map, qs_len]; exact hi)
  rw [this, List.getD_eq_getElem?_getD, List.getElem?_map, qs_get 4 _ i hi]
  rfl
set_option maxRecDepth 100000 in
theorem tc_dd {W : World} (hL : laidMet Tryd.prog [("bosun/curve.dTwice", Rows.laid_bosun_curve_dTwice)] W) : Tb 3 ((Ed.dN + Ed.dN) % P5) W := by
  have e1 : (Rows.laid_bosun_curve_dTwice : DataW Unit) = Lib.tabData .u64 ((qs 4 ((Ed.dN + Ed.dN) % P5)).map fun x : Nat => (x : Int)) := by
    rw [show qs 4 ((Ed.dN + Ed.dN) % P5) = [16993941304535871833, 63073048630374742, 1841551078520508720, 2596001775599221991] by decide +kernel]; kernel_rfl
  rw [e1] at hL
  have t1 := Lib.tabIs_of_head (g := 3) (t := 25) (e := 22) (n := 4) (by kernel_rfl) (by kernel_rfl) Tryd.underlying25 Tryd.underlying22 (by kernel_rfl) (by kernel_rfl) hL
  intro i hi
  have := t1.cell (g := 3) (by kernel_rfl) i (by rw [List.length_map, qs_len]; exact hi)
  rw [this, List.getD_eq_getElem?_getD, List.getElem?_map, qs_get 4 _ i hi]
  rfl
set_option maxRecDepth 100000 in
theorem tab_sums {W : World} (hL : laidMetH Tryd.prog [("bosun/field.modulus", Rows.laid_bosun_field_modulus), ("bosun/field.lessTwo", Rows.laid_bosun_field_lessTwo), ("bosun/curve.dTwice", Rows.laid_bosun_curve_dTwice), ("bosun/curve.baseX", Rows.laid_bosun_curve_baseX), ("bosun/curve.baseY", Rows.laid_bosun_curve_baseY)] W) : TabC W := by
  rw [MakeChecks.laidMetH_plain _ _ _ (by kernel_rfl)] at hL
  exact ⟨⟨tb_m (laidMet.filter (fun x => x.1 == "bosun/field.modulus") hL)⟩, tb_l (laidMet.filter (fun x => x.1 == "bosun/field.lessTwo") hL), tc_x (laidMet.filter (fun x => x.1 == "bosun/curve.baseX") hL), tc_y (laidMet.filter (fun x => x.1 == "bosun/curve.baseY") hL), tc_dd (laidMet.filter (fun x => x.1 == "bosun/curve.dTwice") hL)⟩
set_option maxRecDepth 100000 in
theorem tab_bytes {W : World} (hL : laidMetH Tryd.prog [("bosun/field.modulus", Rows.laid_bosun_field_modulus), ("bosun/field.lessTwo", Rows.laid_bosun_field_lessTwo), ("bosun/field.eighth", Rows.laid_bosun_field_eighth), ("bosun/field.rootOfMinusOne", Rows.laid_bosun_field_rootOfMinusOne), ("bosun/curve.d", Rows.laid_bosun_curve_d), ("bosun/curve.dTwice", Rows.laid_bosun_curve_dTwice), ("bosun/curve.baseX", Rows.laid_bosun_curve_baseX), ("bosun/curve.baseY", Rows.laid_bosun_curve_baseY)] W) : TabC W ∧ TabD W := by
  rw [MakeChecks.laidMetH_plain _ _ _ (by kernel_rfl)] at hL
  exact ⟨⟨⟨tb_m (laidMet.filter (fun x => x.1 == "bosun/field.modulus") hL)⟩, tb_l (laidMet.filter (fun x => x.1 == "bosun/field.lessTwo") hL), tc_x (laidMet.filter (fun x => x.1 == "bosun/curve.baseX") hL), tc_y (laidMet.filter (fun x => x.1 == "bosun/curve.baseY") hL), tc_dd (laidMet.filter (fun x => x.1 == "bosun/curve.dTwice") hL)⟩, ⟨⟨tb_e (laidMet.filter (fun x => x.1 == "bosun/field.eighth") hL), tb_r (laidMet.filter (fun x => x.1 == "bosun/field.rootOfMinusOne") hL)⟩, tc_d (laidMet.filter (fun x => x.1 == "bosun/curve.d") hL)⟩⟩
def ptN (p : Ed.Pt) : Nat × Nat := (p.x.val, p.y.val)
theorem Go2.of (l : List Ed.Pt) : Go2 (l.map ptN) l := by
  refine ⟨List.length_map _, fun k q p hq hp => ?_⟩
  rw [List.getElem?_map, hp] at hq
  obtain rfl : ptN p = q := by simpa using hq
  exact PtIs.self p
theorem run_pp2 (p q : Ed.Pt) (w : World) : (Instr.buildSlice 71 2 #[(0, .agg (ptC p)), (1, .agg (ptC q))]).run Tryd.prog w = .ok (.slice (some ⟨w.heap.size, 0, Option.none⟩) 2 2) (w.alloc (.cells (psC [ptN p, ptN q]) 27)) := run_ps2 _ _ _ _ w
theorem run_pp4 (p q r s : Ed.Pt) (w : World) : (Instr.buildSlice 71 4 #[(0, .agg (ptC p)), (1, .agg (ptC q)), (2, .agg (ptC r)), (3, .agg (ptC s))]).run Tryd.prog w = .ok (.slice (some ⟨w.heap.size, 0, Option.none⟩) 4 4) (w.alloc (.cells (psC [ptN p, ptN q, ptN r, ptN s]) 27)) := run_ps4 _ _ _ _ _ _ _ _ w
theorem psum_2 (p q : Ed.Pt) : psum [p, q] = p.sum q := by
  show (Ed.Pt.none.sum p).sum q = _
  rw [Ed.Pt.none_sum]
theorem psum_4 (p q : Ed.Pt) : psum [p, q, q.neg, q] = p.sum q := by
  show (((Ed.Pt.none.sum p).sum q).sum q.neg).sum q = _
  rw [Ed.Pt.none_sum, Ed.Pt.assoc p q q.neg, Ed.Pt.sum_neg, Ed.Pt.sum_none]
theorem padd_2 (p q : Ed.Pt) (v : Value) (w : World) (hv : IsPs w v [ptN p, ptN q]) (hT : TabC w) :
    Calls Tryd.prog 11 #[v] w fun e w' => e = .returned (.agg (ptC (p.sum q))) ∧ Below w.heap.size w w' := by
  have h := padd_any v [ptN p, ptN q] [p, q] (Go2.of [p, q]) (show 2 < 1000 by decide) w hv hT
  rwa [psum_2] at h
theorem padd_4 (p q : Ed.Pt) (v : Value) (w : World) (hv : IsPs w v [ptN p, ptN q, ptN q.neg, ptN q]) (hT : TabC w) :
    Calls Tryd.prog 11 #[v] w fun e w' => e = .returned (.agg (ptC (p.sum q))) ∧ Below w.heap.size w w' := by
  have h := padd_any v [ptN p, ptN q, ptN q.neg, ptN q] [p, q, q.neg, q] (Go2.of [p, q, q.neg, q]) (show 4 < 1000 by decide) w hv hT
  rwa [psum_4] at h
theorem padd_0 (w : World) (hT : TabC w) :
    Calls Tryd.prog 11 #[.slice Option.none 0 0] w fun e w' => e = .returned (.agg (ptC Ed.Pt.none)) ∧ Below w.heap.size w w' :=
  padd_any _ [] [] (Go2.of []) (by decide) w (IsPs.nil w 0) hT
end Cv
end Go.Proofs.YtbplbdnofobbiaaDoor
