/- curve: sums of points; are two one. -/
import Derived.Test.YtbplbdnofobbiaaDoorCv8
set_option linter.unusedVariables false
set_option linter.unusedSimpArgs false
set_option maxRecDepth 100000
set_option maxHeartbeats 8000000
namespace Go.Proofs.YtbplbdnofobbiaaDoor
namespace Cv
open Fe
open Go.ChangeShapes Go.WideShapes Go.ChangeAt Go.RowKit
def IsPs (w : World) (v : Value) (ps : List (Nat × Nat)) : Prop := ∃ a c, v = .slice a ps.length c ∧ (∀ k q, ps[k]? = some q → ∃ g, a = some ⟨g, 0, .none⟩ ∧ ∀ j x, (pC q.1 q.2)[j]? = some x → w.cell? ⟨g, k * 8 + j, .none⟩ = some x)
theorem IsPs.below {w X : World} {v : Value} {ns : List (Nat × Nat)} (h : IsPs w v ns) (hb : Below w.heap.size w X) : IsPs X v ns := by
 obtain ⟨a, c, rfl, h⟩ := h
 refine ⟨a, c, rfl, fun k n hk => ?_⟩
 obtain ⟨g, rfl, hc⟩ := h k n hk
 exact ⟨g, rfl, fun j x hx => (hb.cell (World.block_lt_of_cell? _ _ (hc j x hx))).trans (hc j x hx)⟩
def psC (ps : List (Nat × Nat)) : Array Value := lvs (ps.flatMap fun q => qs 4 q.1 ++ qs 4 q.2)
theorem psC_at : ∀ (ps : List (Nat × Nat)) (k : Nat) (q : Nat × Nat) (j : Nat) (x : Value), ps[k]? = some q → (pC q.1 q.2)[j]? = some x → (psC ps)[k * 8 + j]? = some x
 | [], k, q, j, x, h, _ => by simp at h
 | r :: ps, 0, q, j, x, h, hx => by
  obtain rfl : r = q := by simpa using h
  have := lvs_part [] (qs 4 r.1 ++ qs 4 r.2) (ps.flatMap fun q => qs 4 q.1 ++ qs 4 q.2) j x hx
  simpa [psC] using this
 | r :: ps, k + 1, q, j, x, h, hx => by
  have ih := psC_at ps k q j x (by simpa using h) hx
  have := lvs_part (qs 4 r.1 ++ qs 4 r.2) (ps.flatMap fun q => qs 4 q.1 ++ qs 4 q.2) [] (k * 8 + j) x ih
  rw [List.append_nil, List.length_append, qs_len, qs_len] at this
  rw [show (k + 1) * 8 + j = 4 + 4 + (k * 8 + j) by omega]
  exact this
theorem IsPs.of {w : World} {g : Nat} {ps : List (Nat × Nat)} {t : TypeId} {fr : Nat × Nat} {c : Nat} (h : w.heap[g]? = some (.cells (psC ps) t fr)) : IsPs w (.slice (some ⟨g, 0, .none⟩) ps.length c) ps :=
 ⟨_, _, rfl, fun k q hk => ⟨g, rfl, fun j x hx => (cell_of_row w g (k * 8 + j) _ _ _ h).trans (psC_at ps k q j x hk hx)⟩⟩
theorem psC_2 (a b c d : Nat) : psC [(a, b), (c, d)] = #[lv (limb a 0), lv (limb a 1), lv (limb a 2), lv (limb a 3), lv (limb b 0), lv (limb b 1), lv (limb b 2), lv (limb b 3), lv (limb c 0), lv (limb c 1), lv (limb c 2), lv (limb c 3), lv (limb d 0), lv (limb d 1), lv (limb d 2), lv (limb d 3)] := rfl
theorem run_ps2 (a b c d : Nat) (w : World) : (Instr.buildSlice 71 2 #[(0, .agg (pC a b)), (1, .agg (pC c d))]).run Tryd.prog w = .ok (.slice (some ⟨w.heap.size, 0, .none⟩) 2 2) (w.alloc (.cells (psC [(a, b), (c, d)]) 27)) := by
 rw [psC_2, pC_lit, pC_lit]; kernel_rfl
def Go2 (ps : List (Nat × Nat)) (l : List Ed.Pt) : Prop := ps.length = l.length ∧ ∀ (k : Nat) (q : Nat × Nat) (p : Ed.Pt), ps[k]? = some q → l[k]? = some p → PtIs q.1 q.2 p
def psum (l : List Ed.Pt) : Ed.Pt := l.foldl Ed.Pt.sum Ed.Pt.none
theorem psum_snoc (l : List Ed.Pt) (k : Nat) (h : k < l.length) : psum (l.take (k + 1)) = (psum (l.take k)).sum l[k] := by
 unfold psum
 rw [List.take_succ_eq_append_getElem h, List.foldl_append]; rfl
theorem padd_any (v : Value) (ps : List (Nat × Nat)) (l : List Ed.Pt) (hg : Go2 ps l) (hl : ps.length < 1000) (w : World) (hv : IsPs w v ps) (hT : TabC w) :
  Calls Tryd.prog 11 #[v] w fun e w' => e = .returned (.agg (ptC (psum l))) ∧ Below w.heap.size w w' := by
 obtain ⟨a, c, rfl, hv⟩ := hv
 have hup := Tryd.underlying27
 have hus := Tryd.underlying73
 have hzP := pZero
 have hzS := sZero
 have h0 := (on_all w).alloc (.cells (pC 0 0) 27)
 have s0 := (Str.refl w).alloc (.cells (pC 0 0) 27)
 try simp only [World.size_alloc] at h0
 have H1 := hide h0
 have S1 := hide s0
 clear h0 s0
 have Hno := hide (fun X => none_pt X)
 have Hs0 := hide (fun X h => spread_p Ed.Pt.none X h)
 have Hpl := hide (fun s t X h => plus_any s t X h)
 have Hsp := hide (fun x y p (h : PtIs x y p) X h2 => spread_pt h X h2)
 have Hend := hide (fun (s : Ed.Sp) (h : s.has (psum l)) X h2 => point_has h X h2)
 have HI := hide spInfo
 have HO := hide spOne
 have HZ := hide spSize
 have HZs := hide spZ
 have HpI := hide pInfo
 have HpO := hide pC_one
 have HpZ := hide (fun x y => pSize 0 0 x y)
 obtain ⟨HsR, HoR, HzR⟩ := b3 (ptInfo (psum l)) (ptOne (psum l)) (ptZ (psum l))
 have hTab := hide hT
 have Hhas := hide spread_none
 obtain ⟨HsQ0, HoQ0, HzQ0⟩ := b3 (spInfo Ed.Pt.none.spread) (spOne Ed.Pt.none.spread) (spZ Ed.Pt.none.spread)
 have Hv := hide hv
 have Hg := hide hg
 have Hl := hide hl
 clear hv hg hl
 generalize pC 0 0 = Zp at *
 generalize sC 0 0 0 0 = Zs at *
 generalize ptC (psum l) = R at *
 generalize ptC Ed.Pt.none = P0 at *
 generalize hQ : spC Ed.Pt.none.spread = Q0 at *
 have HQ := hide hQ
 clear hQ
 go_enter Tryd.func11, Tryd.ntmps11
 go_wp2_with fail
 generalize w.alloc (.cells Zp 27) = w1 at *
 refine (Hno.out _).mono ?_
 rintro e w2 ⟨rfl, hB⟩
 obtain ⟨H2, S2⟩ := nx H1.out S1.out hB
 clear hB H1 S1
 go_wp2_with fail
 refine (Hs0.out _ (hT.below (all_below H2.out.right S2.out))).mono ?_
 rintro e w3 ⟨rfl, hB⟩
 obtain ⟨H3, S3⟩ := nx H2.out S2.out hB
 clear hB H2 S2
 obtain ⟨gN, gM, H4, S4⟩ := newV H3.out S3.out Zs Q0 73
 go_wp2_with (first
  | (refine wS gN HsQ0 HzQ0 HoQ0 ?_))
 generalize (w3.alloc (.cells Zs 73)).setRow w3.heap.size Q0 = w4 at *
 clear gN gM H3 S3
 generalize w3.heap.size = p3 at *
 go_loopw [10] (fun i wr => ∃ k : Nat, ∃ s : Ed.Sp, k ≤ ps.length ∧ i = .int .i64 k ∧ s.has (psum (l.take k)) ∧ (blk p3 (.cells (spC s) 73 (0, 0)) * (blk (w.heap.size) (.cells Zp 27 (0, 0)) * all w)).on wr ∧ Str w wr) (fun i _ => ps.length - (intOf i).toNat)
 case atStart => exact ⟨0, Ed.Pt.none.spread, by omega, rfl, Hhas.out, by rw [HQ.out]; exact H4.out, S4.out⟩
 case round =>
  obtain ⟨k, s, hk, rfl, hhas, hX, hS2⟩ := hrel
  have H20 := hide hX
  have S20 := hide hS2
  have Hs := hide hhas
  clear hX hS2 hhas H4 S4
  by_cases hlt : k < ps.length
  ·have hB0 := all_below H20.out.right.right S20.out
   obtain ⟨g, rfl, hc⟩ := Hv.out k ps[k] (List.getElem?_eq_getElem hlt)
   have hkl : k < l.length := by rw [← Hg.out.1]; exact hlt
   have hpt := Hg.out.2 k ps[k] l[k] (List.getElem?_eq_getElem hlt) (List.getElem?_eq_getElem hkl)
   have hnext := Ed.Sp.add_has Hs.out (Ed.Pt.spread_has l[k])
   rw [← psum_snoc l k hkl] at hnext
   have hcell := fun j x hx => (hB0.cell (World.block_lt_of_cell? _ _ (hc j x hx))).trans (hc j x hx)
   have Hsp2 := hide (fun X h2 => Hsp.out _ _ _ hpt X h2)
   generalize l[k] = p at *
   have Hp2 := hide (fun X h => Hpl.out s p.spread X h)
   have Hn := hide hnext
   generalize ps[k] = q at *
   obtain ⟨x, y⟩ := q
   dsimp only at hcell hpt Hsp2
   have hl9 := Hl.out
   have hkn : (k : Int) < (ps.length : Int) := by omega
   have hkn2 : (k : Int) < ((ps.length : Nat) : Int) := hkn
   clear hc hB0 hlt hpt hnext hkl
   obtain ⟨HsXP, HoXP, HzXP⟩ := b3 (HpI.out x y) (HpO.out x y) (HpZ.out x y)
   have HsA := hide (HI.out s)
   have HsB := hide (HI.out p.spread)
   have HsC := hide (HI.out (s.add p.spread))
   have HoC := hide (HO.out (s.add p.spread))
   have HzA := hide (HZs.out s)
   have HzC := hide (HZs.out (s.add p.spread))
   generalize pC x y = XP at *
   generalize pC 0 0 = Zp0 at *
   generalize spC s = A at *
   generalize spC p.spread = B at *
   generalize hC : spC (s.add p.spread) = C at *
   have HC := hide hC
   have Hcell := hide hcell
   clear hC hcell
   have ht := Hcell.out
   have hN := H20.out.alloc (.cells Zp 27)
   have gN := on_blk_mul hN
   have hM := hN.setRow XP
   have H21 := hide hM
   have S21 := hide ((S20.out.alloc (.cells Zp 27)).setRow wr.heap.size XP)
   clear hN hM
   go_wp2_with (first
    | (refine wpList_load_part rfl _ _ rfl g (k * 8) rfl XP _ ht hup rfl HsXP ?_)
    | (refine wS gN HsXP HzXP HoXP ?_))
   generalize (wr.alloc (.cells Zp 27)).setRow wr.heap.size XP = w21 at *
   clear gN H20 S20 ht
   generalize wr.heap.size = p5 at *
   have hT0 := hide (hTab.out.below (all_below H21.out.right.right.right S21.out))
   refine wp_tail 4 [isV (.agg A), isV (.agg XP), isV (.agg B), isV (.agg C)] ?keep ?todo ?r41
   case keep => exact ⟨Keep.isV _, Keep.isV _, Keep.isV _, Keep.isV _, trivial⟩
   case todo =>
    refine ⟨?_, ?_, ?_, ?_, trivial⟩
    ·exact fun ev X hT hb hk hf => OpOk.l (x := .tmp 3) hk.1 (on_blk_mul (H21.out.below hT).right) hus HsA.out
    ·exact fun ev X hT hb hk hf => OpOk.l (x := .tmp 5) hk.1 (on_blk_mul (H21.out.below hT)) hup HsXP.out
    ·intro ev X hT hb hk hf
     have e0 : ev (.tmp 15) = _ := hf.1
     refine OpOk.enters (f := 37) (args := #[.agg XP]) (W' := X) (by simp [execOp, resolve, invoke, e0, hb.1, hb.2.1, go_sem]) ((Hsp2.out X (hT0.out.below hT)).mono ?_)
     rintro e _ ⟨rfl, hB⟩
     exact ⟨_, rfl, rfl, hB⟩
    ·intro ev X hT hb hk hf
     have e0 : ev (.tmp 14) = _ := hf.1
     have e1 : ev (.tmp 16) = _ := hf.2.1
     exact OpOk.c (by simp [execOp, resolve, invoke, e0, e1, hb.1, hb.2.1, go_sem]) (Hp2.out X (hT0.out.below hT))
   intro w22 hX
   rintro _ rfl _ rfl _ rfl _ rfl
   obtain ⟨H22, S22⟩ := nx H21.out S21.out hX
   clear hX H21 S21
   clear hT0
   go_wp2
   refine Rest.done ?_
   have H23 := hide (st1 H22.out (cs := C))
   have S23 := hide (S22.out.setRow (p3) C)
   have gW := on_blk_mul H22.out.right
   go_wp2_with (first
    | (refine wS gW HsC.out (HzA.out.symm.trans HzC.out) HoC.out ?_))
   generalize w22.setRow (p3) C = w23 at *
   clear gW H22 S22
   exact ⟨⟨k + 1, s.add p.spread, by omega, by simp, Hn.out, by rw [HC.out]; exact H23.out.right, S23.out⟩, by simp [intOf]; omega⟩
  ·obtain rfl : k = ps.length := by omega
   have hl9 := Hl.out
   have hh := Hs.out
   rw [Hg.out.1, List.take_length] at hh
   have Hend2 := hide (fun X h2 => Hend.out s hh X h2)
   have HsP := hide (HI.out s)
   generalize spC s = P at *
   clear hh
   have g0 := on_blk_mul H20.out
   go_wp2_with (first
    | (refine wL g0 hus HsP ?_))
   clear g0
   refine (Hend2.out _ (hT.below (all_below H20.out.right.right S20.out))).mono ?_
   rintro e w21 ⟨rfl, hB⟩
   obtain ⟨H21, S21⟩ := nx H20.out S20.out hB
   clear hB H20 S20
   have gR := on_blk_mul H21.out.right
   have HB := hide (all_below H21.out.right.right S21.out)
   go_wp2_with (first
    | (refine wS gR HsR HzR HoR ?_))
   exact retR Tryd.results11 gR hup HsR.out rfl HB.out (by omega)
theorem psame_any (x y : Nat) (p : Ed.Pt) (hp : PtIs x y p) (x2 y2 : Nat) (q : Ed.Pt) (hq : PtIs x2 y2 q) (w : World) :
  Calls Tryd.prog 18 #[.agg (pC x y), .agg (pC x2 y2)] w fun e w' => e = .returned (.bool (decide (p = q))) ∧ Below w.heap.size w w' := by
 have heq : (decide (x = x2) && decide (whY x y = whY x2 y2)) = decide (p = q) := by
  rw [hp.ye, hq.ye, hp.xe, hq.xe, Bool.eq_iff_iff]
  simp only [Bool.and_eq_true, decide_eq_true_eq]
  constructor
  ·rintro ⟨h1, h2⟩; exact Ed.Pt.same (Fin.ext h1) (Fin.ext h2)
  ·rintro rfl; exact ⟨rfl, rfl⟩
 have h4 := P5_lt
 have hx := hp.xl
 have hx2 := hq.xl
 have hy := whY_lt x y hp.yl
 have hy2 := whY_lt x2 y2 hq.yl
 have hup := Tryd.underlying27
 have hzP := pZero
 have h0 := ((on_all w).alloc (.cells (pC x y) 27)).alloc (.cells (pC x2 y2) 27)
 have s0 := ((Str.refl w).alloc (.cells (pC x y) 27)).alloc (.cells (pC x2 y2) 27)
 try simp only [World.size_alloc] at h0
 have H1 := hide h0
 have S1 := hide s0
 clear h0 s0
 have Hw1 := hide (fun X => whole_any x y hx hp.yl X)
 have Hw2 := hide (fun X => whole_any x2 y2 hx2 hq.yl X)
 have he := fun X => eq_pC X x (whY x y) x2 (whY x2 y2) (by omega) (by omega) (by omega) (by omega)
 rw [heq] at he
 have He := hide he
 generalize decide (p = q) = bb at *
 have Hgd : Hid (Tryd.prog.eqGuardType Tryd.prog.depth 27 = false) := hide (by kernel_rfl)
 clear heq he h4 hx hx2 hy hy2 hp hq
 obtain ⟨HsAp, HoAp, HzAp⟩ := b3 (pInfo x y) (pC_one x y) (pSize 0 0 x y)
 obtain ⟨HsBp, HoBp, HzBp⟩ := b3 (pInfo x2 y2) (pC_one x2 y2) (pSize 0 0 x2 y2)
 obtain ⟨HsAw, HoAw, HzAw⟩ := b3 (pInfo x (whY x y)) (pC_one x (whY x y)) (pSize 0 0 x (whY x y))
 obtain ⟨HsBw, HoBw, HzBw⟩ := b3 (pInfo x2 (whY x2 y2)) (pC_one x2 (whY x2 y2)) (pSize 0 0 x2 (whY x2 y2))
 generalize pC x y = Ap at *
 generalize pC x2 y2 = Bp at *
 generalize pC x (whY x y) = Aw at *
 generalize pC x2 (whY x2 y2) = Bw at *
 generalize pC 0 0 = Zp at *
 go_enter Tryd.func18, Tryd.ntmps18
 refine wp_seq_h fun K1 hK1 => ?_
 go_wp2_with fail
 refine hK1.out _ _ ?_
 clear hK1 K1
 generalize (w.alloc (.cells Ap 27)).alloc (.cells Bp 27) = w1 at *
 refine wp_seq_h fun K2 hK2 => ?_
 refine wp_tail 5 [isV (.agg Ap), isV (.agg Aw), isV (.agg Bp), isV (.agg Bw), isV (.bool bb)] ?keep ?todo ?r42
 case keep => repeat (first | exact trivial | refine ⟨Keep.isV _, ?_⟩)
 case todo =>
  refine ⟨?_, ?_, ?_, ?_, ?_, trivial⟩
  ·exact fun ev X hT hb hk hf => OpOk.l (x := .tmp 2) hk.1 (on_blk_mul (H1.out.below hT).right) hup HsAp.out
  ·intro ev X hT hb hk hf
   have e0 : ev (.tmp 5) = _ := hf.1
   refine OpOk.enters (f := 40) (args := #[.agg Ap]) (W' := X) (by simp [execOp, resolve, invoke, e0, hb.1, hb.2.1, go_sem]) ((Hw1.out X).mono ?_)
   rintro e _ ⟨rfl, hB⟩
   exact ⟨_, rfl, rfl, hB⟩
  ·exact fun ev X hT hb hk hf => OpOk.l (x := .tmp 3) hk.1 (on_blk_mul (H1.out.below hT)) hup HsBp.out
  ·intro ev X hT hb hk hf
   have e0 : ev (.tmp 7) = _ := hf.1
   refine OpOk.enters (f := 40) (args := #[.agg Bp]) (W' := X) (by simp [execOp, resolve, invoke, e0, hb.1, hb.2.1, go_sem]) ((Hw2.out X).mono ?_)
   rintro e _ ⟨rfl, hB⟩
   exact ⟨_, rfl, rfl, hB⟩
  ·intro ev X hT hb hk hf
   have e0 : ev (.tmp 6) = _ := hf.1
   have e1 : ev (.tmp 8) = _ := hf.2.1
   exact OpOk.run (v := .bool bb) (W' := X) (by
    unfold execOp
    simp only [e0, e1, Sem.run_bind, run_eqGuard_agg X _ _ _ _ _ _ Hgd.out, run_eql_struct, He.out X, Result.andThen_ok]
    rfl) ⟨rfl, Stay.refl _⟩
 intro w2 hX
 rintro _ rfl _ rfl _ rfl _ rfl _ rfl
 obtain ⟨H2, S2⟩ := nx H1.out S1.out hX
 clear hX H1 S1
 go_wp2
 refine Rest.done ?_
 have HB := hide (all_below H2.out.right.right S2.out)
 go_wp2_with fail
 refine hK2.out _ _ ?_
 clear hK2 K2
 go_wp2_with fail
 go_ret
 exact ⟨rfl, HB.out⟩
end Cv
end Go.Proofs.YtbplbdnofobbiaaDoor
