/- packet: Parse. -/
import Derived.Test.YtgmpmlneoiagdaaGreatDoorPk3
import Derived.Laws.CopyOwn
import Derived.Handy
namespace Go.Proofs.YtgmpmlneoiagdaaGreatDoor
open Go.ChangeShapes Go.WideShapes Go.ChangeAt Go.RowKit
set_option linter.unusedVariables false
set_option linter.unusedSimpArgs false

theorem addr_add0 (b off j : Nat) : (⟨b, off, Option.none⟩ : Addr).add j = ⟨b, off + j, Option.none⟩ := by unfold Addr.add; split <;> simp_all
theorem pk_hz (w : World) : (zeroValue 100).run Tryz.prog w = .ok (.agg (pkC zP)) w := by kernel_rfl
theorem finds (q : PkS) : (findR 1 (allI q)).1 = wordB q.hw ∧ (findR 2 (allI q)).1 = [q.ty] ∧ (findR 3 (allI q)).1 = wordB q.ver ∧ (findR 4 (allI q)).1 = wordB q.sz ∧ (findR 5 (allI q)).1 = q.hash ∧ (findR 6 (allI q)).1 = q.sig := by
  simp [findR, findF, allI, descI]
theorem num_word (n : Nat) (h : n < 4294967296) : numS (wordB n) 0 4 = n := by
  have := numS_word [] [] n h 0 rfl
  simpa using this
theorem pkC_ty (p : PkS) (t : UInt8) : (pkC p).setIfInBounds 1 (vb t) = pkC { p with ty := t } := by simp [pkC, pkL]
theorem splice_hash (p : PkS) (h : p.hash.length = 32) (l : List UInt8) (hl : l.length = 32) : splice (pkL p) 4 (vbs l) = pkL { p with hash := l } := by
  unfold splice pkL
  have e1 : (vbs l).length = 32 := by simp [hl]
  have e2 : (vbs p.hash).length = 32 := by simp [h]
  rw [e1, List.take_left' (by rfl), show 4 + 32 = 4 + 32 from rfl, ← List.drop_drop, List.drop_left' (by rfl), List.drop_left' e2]
theorem splice_sig (p : PkS) (h : p.hash.length = 32) (h2 : p.sig.length = 64) (l : List UInt8) (hl : l.length = 64) : splice (pkL p) 36 (vbs l) = pkL { p with sig := l } := by
  unfold splice pkL
  have e1 : (vbs l).length = 64 := by simp [hl]
  have e2 : (vbs p.sig).length = 64 := by simp [h2]
  have e3 : (vbs p.hash).length = 32 := by simp [h]
  have ht : ([Value.int .u32 p.hw, vb p.ty, .int .u32 p.ver, .int .u32 p.sz] ++ (vbs p.hash ++ vbs p.sig)).take 36 = [Value.int .u32 p.hw, vb p.ty, .int .u32 p.ver, .int .u32 p.sz] ++ vbs p.hash := by
    rw [← List.append_assoc]
    exact List.take_left' (by simp [h])
  have hd : ([Value.int .u32 p.hw, vb p.ty, .int .u32 p.ver, .int .u32 p.sz] ++ (vbs p.hash ++ vbs p.sig)).drop (36 + 64) = [] := List.drop_eq_nil_of_le (by simp [h, h2])
  rw [e1, ht, hd]
  simp
theorem pk_three (n1 n2 n3 : Nat) : (((pkC zP).setIfInBounds 0 (.int .u32 n1)).setIfInBounds 2 (.int .u32 n2)).setIfInBounds 3 (.int .u32 n3) = pkC { zP with hw := n1, ver := n2, sz := n3 } := by simp [pkC, pkL, zP]
theorem wpList_build_pk {ops : Array Oper} {rest : List Oper} {o : Oper} {a : Act} {w : World} {Q : Exit → Act → World → Prop} (hgd : o.guard = Option.none) (x y z : Operand) (ho : o.op = .build 100 #[(0, x), (2, y), (3, z)]) (n1 n2 n3 : Nat)
    (hx : a.eval x = .int .u32 n1) (hy : a.eval y = .int .u32 n2) (hz : a.eval z = .int .u32 n3) (h : wpList Tryz.prog ops Q rest (a.put o.dst (.agg (pkC { zP with hw := n1, ver := n2, sz := n3 }))) w) : wpList Tryz.prog ops Q (o :: rest) a w := by
  have hr : (execOp a.eval o).run Tryz.prog w = .ok (.value (.agg (pkC { zP with hw := n1, ver := n2, sz := n3 }))) w := by
    have hz' := pk_hz w
    have hs : (pkC zP).size = 100 := rfl
    have hup := Tryz.underlying100
    rw [← pk_three]
    generalize pkC zP = Z at *
    generalize a.eval = ev at *
    have hne : Z ≠ #[] := by intro e; rw [e] at hs; simp at hs
    simp [execOp, ho, hx, hy, hz, hz', hs, hne, hup, go_sem]
  exact wpList_plain hgd fun _ hK => by
    unfold Oper.wp
    simp only [hr]
    exact hK _ _ h
/-- how both parsings end -/
def PkEnd (C : PkS → Array Value) (R : PkS × Nat) (w : World) (e : Ending) (w' : World) : Prop := e = .returned (.tuple #[.agg (C R.1), .int .i64 (R.2 : Nat)]) ∧ Below w.heap.size w w'

set_option maxRecDepth 100000 in
set_option maxHeartbeats 8000000 in
theorem pkparse_any (v : Value) (b : List UInt8) (w : World) (h : IsBytes w v b) (hlen : b.length ≤ 1000000) (hLens : Lens w) :
    Calls Tryz.prog 93 #[v] w (PkEnd pkC (pparse b) w) := by
  have hup := Tryz.underlying100
  have hz := pk_hz
  have hzs : (Tryz.prog.info? 100).map (·.size) = some (pkC zP).size := by kernel_rfl
  have hr0 := heap_alloc_new w (.cells (pkC zP) 100)
  have hb0 : Below w.heap.size w (w.alloc (.cells (pkC zP) 100)) := (Below.refl _ _).alloc (Nat.le_refl _) _
  have HB0 := hide hb0
  have hb1 := h.below hb0
  have hzo := pkC_one zP
  have HZ := hide (show (pkC zP).size = 100 by rfl)
  clear hb0
  by_cases h128 : 128 < b.length
  · have HP := hide (show pparse b = (zP, 17) by unfold pparse; rw [if_pos h128])
    have Hr0 := hide hr0
    obtain ⟨a, c, rfl, _, hm, _, _⟩ := h
    have h128i : (128 : Int) < (b.length : Int) := by omega
    generalize hZ : pkC zP = Z at *
    clear hb1 h128 hr0
    go_enter Tryz.func93, Tryz.ntmps93
    go_wp2_with (refine wpList_store_row rfl _ _ _ rfl w.heap.size Z rfl rfl _ _ Hr0.out hzs rfl hzo ?_)
    refine bodyPost_ret (v := .tuple #[.agg Z, .int .i64 17]) (results_cell_row_tmp Tryz.results93 _ _ w.heap.size _ Z (0, 0) _ rfl (setRow_heap_same _ _ _ _ _ _ Hr0.out) hup rfl hzs (.int .i64 17) rfl) rfl ?_
    refine ⟨?_, below_setRow HB0.out (Nat.le_refl _) _⟩
    rw [HP.out, ← hZ]
    rfl
  · have hP1 := tparse_any _ b _ hb1 hlen
    have HLn := hide (hLens.below HB0.out)
    have h128i : ¬((128 : Int) < (b.length : Int)) := by omega
    have hsh := parse_short (b := b) rfl
    by_cases he : (parseF b.length b 0 []).2 = 0
    · have hpp : parseF b.length b 0 [] = ((parseF b.length b 0 []).1, 0) := by rw [← he]
      have HP : Hid (pparse b = if b.length = 121 ∧ pkB (pkAt b) = b then (pkAt b, 0) else (zP, 7)) := hide (by unfold pparse; rw [if_neg h128, if_neg (by simp [he])])
      have HPS := hide (parse_shape hpp)
      have HPA := hide (fun hs => parse_all hpp hs)
      have Hsh := hide hsh.1
      rw [he] at hP1
      have Hr0 := hide hr0
      obtain ⟨a, c, rfl, _, hm, _, _⟩ := h
      generalize hIt : (parseF b.length b 0 []).1 = its at *
      have HCnt : Hid (its.length ≤ b.length) := hide (by rw [← hIt]; simpa using parse_count b.length b 0 [])
      clear hb1 hr0 hsh hpp he hIt
      generalize hZ : pkC zP = Z at *
      go_enter Tryz.func93, Tryz.ntmps93
      go_wp2_with fail
      refine hP1.mono ?_
      clear hP1
      rintro e w2 ⟨out, L, rfl, hL, ho, hs2⟩
      have HB2 := hide (all_below (w := w.alloc (.cells Z 100)) (by exact ho.right) hs2)
      have HI2 := hide (Its.lay ho)
      have HLl : Hid (L.length ≤ 1000) := hide (by have h1 := HCnt.out; rw [← hL, List.length_map] at h1; omega)
      have HLs : Hid (∀ (i : Nat) (u : Value) (e : TItem), L[i]? = some (u, e) → e.value.length ≤ 1000) := hide fun i u e he => by
        have h1 : e ∈ L.map Prod.snd := List.mem_map.2 ⟨(u, e), List.mem_of_getElem? he, rfl⟩
        rw [hL] at h1
        have := Hsh.out e h1
        omega
      obtain ⟨la, lc, rfl, _, _, _, _⟩ := Its.lay ho
      have hS := shaped_any _ L w2 HI2.out HLs.out (HLn.out.below HB2.out)
      rw [hL] at hS
      have HL := hide hL
      clear ho hs2 hL
      go_wp2_with fail
      refine hS.mono ?_
      clear hS
      rintro e w3 ⟨rfl, hb3⟩
      have HB3 := hide (HB2.out.trans (hb3.mono HB2.out.size))
      have HI : Hid (∀ X, Below w2.heap.size w2 X → IsItems X (.slice la L.length lc) L) := hide fun X hX => HI2.out.below hX
      by_cases hsp : shapeK its = shape6
      · rw [decide_eq_true hsp]
        obtain ⟨hqk, hqi⟩ := HPA.out hsp
        have HP2 := hide (show pparse b = (pkAt b, 0) by rw [HP.out, if_pos (HPS.out.1 hsp)])
        clear HP HPS HPA
        generalize pkAt b = q at *
        obtain ⟨f1, f2, f3, f4, f5, f6⟩ := finds q
        rw [← hqi, ← HL.out] at f1 f2 f3 f4 f5 f6
        have HF1 := hide f1
        have HF2 := hide f2
        have HF3 := hide f3
        have HF4 := hide f4
        have HF5 := hide f5
        have HF6 := hide f6
        have Hqk := hide hqk
        have HW3 := hide hb3
        have hN1 := pnumber_any _ L 1 w3 (HI.out _ hb3) HLl.out HLs.out (by rw [f1]; rfl)
        rw [f1, num_word _ hqk.hw] at hN1
        clear hqi f1 f2 f3 f4 f5 f6 hqk hsp hb3
        go_wp2_with fail
        refine hN1.mono ?_
        clear hN1
        rintro e w4 ⟨rfl, hb4⟩
        have HW4 := hide (HW3.out.trans (hb4.mono HW3.out.size))
        have hN3 := pnumber_any _ L 3 w4 (HI.out _ HW4.out) HLl.out HLs.out (by rw [HF3.out]; rfl)
        rw [HF3.out, num_word _ Hqk.out.ver] at hN3
        clear hb4
        go_wp2_with fail
        refine hN3.mono ?_
        clear hN3
        rintro e w5 ⟨rfl, hb5⟩
        have HW5 := hide (HW4.out.trans (hb5.mono HW4.out.size))
        have hN4 := pnumber_any _ L 4 w5 (HI.out _ HW5.out) HLl.out HLs.out (by rw [HF4.out]; rfl)
        rw [HF4.out, num_word _ Hqk.out.sz] at hN4
        clear hb5
        go_wp2_with fail
        refine hN4.mono ?_
        clear hN4
        rintro e w6 ⟨rfl, hb6⟩
        have HW6 := hide (HW5.out.trans (hb6.mono HW5.out.size))
        have hr6 := heap_alloc_new w6 (.cells Z 100)
        have h7 := (on_all w6).alloc (.cells Z 100)
        have HW7 : Hid (Below w2.heap.size w2 ((w6.alloc (.cells Z 100)).setRow w6.heap.size (pkC { zP with hw := q.hw, ver := q.ver, sz := q.sz }))) := hide (below_setRow (HW6.out.alloc HW6.out.size _) HW6.out.size _)
        have hp7 : ((w6.alloc (.cells Z 100)).setRow w6.heap.size (pkC { zP with hw := q.hw, ver := q.ver, sz := q.sz })).heap[w6.heap.size]? = some (.cells (pkC { zP with hw := q.hw, ver := q.ver, sz := q.sz }) 100 (0, 0)) := setRow_heap_same _ _ _ _ _ _ hr6
        have hok1 : PkS.Ok { zP with hw := q.hw, ver := q.ver, sz := q.sz } := ⟨Hqk.out.hw, Hqk.out.ver, Hqk.out.sz, rfl, rfl⟩
        have hs1 : (Tryz.prog.info? 100).map (·.size) = some (pkC { zP with hw := q.hw, ver := q.ver, sz := q.sz }).size := by rw [pkC_size hok1]; kernel_rfl
        have hzs1 : Z.size = (pkC { zP with hw := q.hw, ver := q.ver, sz := q.sz }).size := by rw [pkC_size hok1]; exact HZ.out
        have ho1 := pkC_one { zP with hw := q.hw, ver := q.ver, sz := q.sz }
        have hpg : w2.heap.size ≤ w6.heap.size := HW6.out.size
        have Hp7 := hide hp7
        have Hpg := hide hpg
        clear hb6 h7 hp7 hpg
        generalize hq1 : ({ zP with hw := q.hw, ver := q.ver, sz := q.sz } : PkS) = q1 at *
        have Hq1 := hide hq1
        have Hok1 := hide hok1
        clear hq1
        generalize hw7 : (w6.alloc (.cells Z 100)).setRow w6.heap.size (pkC q1) = w7 at *
        have Hw7 := hide hw7
        clear hw7
        go_wp2_with (first
          | (refine wpList_build_pk rfl _ _ _ rfl q.hw q.ver q.sz rfl rfl rfl ?_; rw [Hq1.out])
          | (refine wpList_store_row rfl _ _ _ rfl w6.heap.size (pkC q1) rfl rfl _ _ hr6 hs1 hzs1 ho1 ?_; rw [Hw7.out]))
        have hV2 := pvalue_any _ L 2 w7 (HI.out _ HW7.out) HLl.out HLs.out
        rw [HF2.out] at hV2
        generalize w6.heap.size = p at *
        clear hr6 hs1 hzs1 ho1 hok1
        go_wp2_with fail
        refine hV2.mono ?_
        clear hV2
        rintro e w8 ⟨u, rfl, hu8, hs8⟩
        have hb8 := all_below hu8.right hs8
        obtain ⟨gu, cu, rfl, _, _⟩ := own_block hu8 (by simp)
        have cu0 := own_cell hu8 0 _ rfl
        have hp8 := (hb8.block p (Array.getElem?_eq_some_iff.1 Hp7.out).1).trans Hp7.out
        have HW8 := hide (HW7.out.trans (hb8.mono HW7.out.size))
        have hty1 : w8.cell? ⟨p, 1, Option.none⟩ = some (vb q1.ty) := (pk_cells q1 w8 p _ hp8).2.1
        have hfr1 := frozen_of_row w8 p 1 _ _ hp8
        clear hu8 hs8 hb8
        go_wp2_with fail
        have hg9 := heap_setCell_same w8 p 1 _ _ (vb q.ty) hp8
        rw [pkC_ty] at hg9
        obtain ⟨q2, hq2⟩ : ∃ x : PkS, x = { q1 with ty := q.ty } := ⟨_, rfl⟩
        rw [← hq2] at hg9
        have HW9 := hide (HW8.out.setCell (p := ⟨p, 1, Option.none⟩) Hpg.out (vb q.ty))
        have Hp9 := hide hg9
        have Hok9 : Hid (PkS.Ok q2) := hide (by rw [hq2]; exact ⟨Hok1.out.hw, Hok1.out.ver, Hok1.out.sz, Hok1.out.hash, Hok1.out.sig⟩)
        have Hq2 := hide hq2
        have hu5 := Tryz.underlying96
        have hu6 := Tryz.underlying98
        generalize hw9 : w8.setCell ⟨p, 1, Option.none⟩ (vb q.ty) = w9 at *
        clear hg9 hp8 hw9 cu0 hty1 hfr1 hq2
        refine wp_region_tail 4 [isV (.pointer (some ⟨p, 4, Option.none⟩)), isV (.slice (some ⟨p, 4, Option.none⟩) 32 32), isV (.slice la L.length lc), fun v X => IsBytes X v (q.hash)]
          (by simp only [List.take_succ_cons, List.take_zero]; rfl) (by simp only [List.drop_succ_cons, List.drop_zero]; rfl) (by kernel_rfl) (by kernel_rfl) (by kernel_rfl) (by decide) rfl ?keep ?todo ?rest
        case keep => exact ⟨Keep.isV _, Keep.isV _, Keep.isV _, fun _ _ _ h k => IsBytes.below h k, trivial⟩
        case todo =>
          refine ⟨?_, ?_, ?_, ?_, trivial⟩
          · intro ev X hT hb hk hf
            have e0 : ev (.tmp 6) = .pointer (some ⟨p, 0, Option.none⟩) := hk.1
            exact OpOk.run (v := .pointer (some ⟨p, 4, Option.none⟩)) (W' := X) (by simp [execOp, e0, hb.1, go_sem]) ⟨rfl, Stay.refl _⟩
          · intro ev X hT hb hk hf
            have e0 : ev (.tmp 36) = .pointer (some ⟨p, 4, Option.none⟩) := hf.1
            exact OpOk.run (v := .slice (some ⟨p, 4, Option.none⟩) 32 32) (W' := X) (by have h9 := arr_whole 96 32 hu5 p 4 X; simp [execOp, e0, hb.1, h9, go_sem]) ⟨rfl, Stay.refl _⟩
          · intro ev X hT hb hk hf
            have e0 : ev (.tmp 4) = .slice la L.length lc := hk.1
            exact OpOk.move rfl e0 ⟨rfl, Stay.refl _⟩
          · intro ev X hT hb hk hf
            have e0 : ev (.tmp 38) = .slice la L.length lc := hf.1
            refine OpOk.enters (f := 112) (args := #[.slice la L.length lc, vb 5]) (W' := X) (by simp [execOp, resolve, invoke, e0, hb.1, hb.2.1, go_sem]) ((pvalue_any _ L 5 X (HI.out X (HW9.out.trans (hT.mono HW9.out.size))) HLl.out HLs.out).mono ?_)
            rintro e X2 ⟨v5, rfl, h5, h6⟩
            rw [HF5.out] at h5
            exact ⟨_, rfl, own_bytes h5, all_below h5.right h6⟩
        case rest =>
          intro X hT
          rintro _ rfl _ rfl _ rfl v3 h3
          have h3' : IsBytes X v3 q.hash := h3
          obtain ⟨xa, xc, rfl, _, _, hlx, _⟩ := h3'
          have hgX := (hT.block p (Array.getElem?_eq_some_iff.1 Hp9.out).1).trans Hp9.out
          have hbX := HW9.out.trans (hT.mono HW9.out.size)
          have hln : q.hash.length = 32 := Hqk.out.hash
          clear h3 hT
          go_wp2
          refine Rest.done ?_
          have hA : (vbs q.hash).length = Nat.min 32 32 := by rw [show (vbs q.hash).length = q.hash.length by simp, hln]; rfl
          have hB : 4 + (vbs q.hash).length ≤ (pkL q2).length := by
            rw [show (vbs q.hash).length = 32 by simp [hln]]
            have h9 := pkC_size Hok9.out
            have h10 : (pkC q2).size = (pkL q2).length := by simp [pkC]
            omega
          refine wpList_copy_splice rfl _ _ _ _ rfl 5 Tryz.underlying22 (by kernel_rfl) _ _ _ _ _ _ rfl rfl p 4 (pkL q2) 100 hgX (vbs q.hash) hA ?_ hB (vbs_one _) w2.heap.size w2 hbX Hpg.out ?_
          · intro hpos
            obtain ⟨b9, off9, rfl⟩ := hlx.isAddr 0 hpos
            refine ⟨rfl, _, rfl, ?_⟩
            intro j v hv
            have := Lay.cell hlx j hv
            have ea : (⟨b9, off9, Option.none⟩ : Addr).add j = ⟨b9, off9 + j, Option.none⟩ := addr_add0 b9 off9 j
            rw [ea]; exact this
          · intro w10 hg10 hbb10
            have hg9 := hg10.out
            rw [splice_hash q2 Hok9.out.hash _ hln] at hg9
            obtain ⟨q3, hq3⟩ : ∃ x : PkS, x = { q2 with hash := q.hash } := ⟨_, rfl⟩
            rw [← hq3] at hg9
            have Hp10 : Hid (w10.heap[p]? = some (.cells (pkC q3) 100 (0, 0))) := hide hg9
            have HW10 := hide hbb10
            have Hok10 : Hid (PkS.Ok q3) := hide (by rw [hq3]; exact ⟨Hok9.out.hw, Hok9.out.ver, Hok9.out.sz, hln, Hok9.out.sig⟩)
            have Hq3 := hide hq3
            clear hq3 hg9 hg10 hbb10 hlx hgX hbX hln
            simp only [wpList]
            go_wp2_with fail
            refine wp_region_tail 4 [isV (.pointer (some ⟨p, 36, Option.none⟩)), isV (.slice (some ⟨p, 36, Option.none⟩) 64 64), isV (.slice la L.length lc), fun v X => IsBytes X v (q.sig)]
              (by simp only [List.take_succ_cons, List.take_zero]; rfl) (by simp only [List.drop_succ_cons, List.drop_zero]; rfl) (by kernel_rfl) (by kernel_rfl) (by kernel_rfl) (by decide) rfl ?keep ?todo ?rest
            case keep => exact ⟨Keep.isV _, Keep.isV _, Keep.isV _, fun _ _ _ h k => IsBytes.below h k, trivial⟩
            case todo =>
              refine ⟨?_, ?_, ?_, ?_, trivial⟩
              · intro ev X hT hb hk hf
                have e0 : ev (.tmp 6) = .pointer (some ⟨p, 0, Option.none⟩) := hk.1
                exact OpOk.run (v := .pointer (some ⟨p, 36, Option.none⟩)) (W' := X) (by simp [execOp, e0, hb.1, go_sem]) ⟨rfl, Stay.refl _⟩
              · intro ev X hT hb hk hf
                have e0 : ev (.tmp 41) = .pointer (some ⟨p, 36, Option.none⟩) := hf.1
                exact OpOk.run (v := .slice (some ⟨p, 36, Option.none⟩) 64 64) (W' := X) (by have h9 := arr_whole 98 64 hu6 p 36 X; simp [execOp, e0, hb.1, h9, go_sem]) ⟨rfl, Stay.refl _⟩
              · intro ev X hT hb hk hf
                have e0 : ev (.tmp 4) = .slice la L.length lc := hk.1
                exact OpOk.move rfl e0 ⟨rfl, Stay.refl _⟩
              · intro ev X hT hb hk hf
                have e0 : ev (.tmp 43) = .slice la L.length lc := hf.1
                refine OpOk.enters (f := 112) (args := #[.slice la L.length lc, vb 6]) (W' := X) (by simp [execOp, resolve, invoke, e0, hb.1, hb.2.1, go_sem]) ((pvalue_any _ L 6 X (HI.out X (HW10.out.trans (hT.mono HW10.out.size))) HLl.out HLs.out).mono ?_)
                rintro e X2 ⟨v5, rfl, h5, h6⟩
                rw [HF6.out] at h5
                exact ⟨_, rfl, own_bytes h5, all_below h5.right h6⟩
            case rest =>
              intro X hT
              rintro _ rfl _ rfl _ rfl v3 h3
              have h3' : IsBytes X v3 q.sig := h3
              obtain ⟨xa, xc, rfl, _, _, hlx, _⟩ := h3'
              have hgX := (hT.block p (Array.getElem?_eq_some_iff.1 Hp10.out).1).trans Hp10.out
              have hbX := HW10.out.trans (hT.mono HW10.out.size)
              have hln : q.sig.length = 64 := Hqk.out.sig
              clear h3 hT
              go_wp2
              refine Rest.done ?_
              have hA : (vbs q.sig).length = Nat.min 64 64 := by rw [show (vbs q.sig).length = q.sig.length by simp, hln]; rfl
              have hB : 36 + (vbs q.sig).length ≤ (pkL q3).length := by
                rw [show (vbs q.sig).length = 64 by simp [hln]]
                have h9 := pkC_size Hok10.out
                have h10 : (pkC q3).size = (pkL q3).length := by simp [pkC]
                omega
              refine wpList_copy_splice rfl _ _ _ _ rfl 5 Tryz.underlying22 (by kernel_rfl) _ _ _ _ _ _ rfl rfl p 36 (pkL q3) 100 hgX (vbs q.sig) hA ?_ hB (vbs_one _) w2.heap.size w2 hbX Hpg.out ?_
              · intro hpos
                obtain ⟨b9, off9, rfl⟩ := hlx.isAddr 0 hpos
                refine ⟨rfl, _, rfl, ?_⟩
                intro j v hv
                have := Lay.cell hlx j hv
                have ea : (⟨b9, off9, Option.none⟩ : Addr).add j = ⟨b9, off9 + j, Option.none⟩ := addr_add0 b9 off9 j
                rw [ea]; exact this
              · intro w11 hg11 hbb11
                have hg9 := hg11.out
                rw [splice_sig q3 Hok10.out.hash Hok10.out.sig _ hln, show ({ q3 with sig := q.sig } : PkS) = q by rw [Hq3.out, Hq2.out, ← Hq1.out]] at hg9
                have Hp11 : Hid (w11.heap[p]? = some (.cells (pkC q) 100 (0, 0))) := hide hg9
                have HW11 := hide hbb11
                clear hg9 hg11 hbb11 hlx hgX hbX hln
                simp only [wpList]
                have hs2 : (Tryz.prog.info? 100).map (·.size) = some (pkC q).size := by rw [pkC_size Hqk.out]; kernel_rfl
                have hz2 : Z.size = (pkC q).size := by rw [pkC_size Hqk.out]; exact HZ.out
                have ho2 := pkC_one q
                have hB11 := HB2.out.trans (HW11.out.mono HB2.out.size)
                have Hr11 := hide ((hB11.block w.heap.size (by simp)).trans Hr0.out)
                have HB11 := hide hB11
                clear hB11
                generalize hC : pkC q = C at *
                go_wp2_with (first
                  | (refine wpList_load_row rfl _ _ rfl p rfl _ C _ _ Hp11.out hup rfl hs2 ?_)
                  | (refine wpList_store_row rfl _ _ _ rfl w.heap.size C rfl rfl _ _ Hr11.out hs2 hz2 ho2 ?_))
                refine bodyPost_ret (v := .tuple #[.agg C, .int .i64 0]) (results_cell_row_tmp Tryz.results93 _ _ w.heap.size _ C (0, 0) _ rfl (setRow_heap_same _ _ _ _ _ _ Hr11.out) hup rfl hs2 (.int .i64 0) rfl) rfl ?_
                refine ⟨?_, below_setRow (HB0.out.trans (HB11.out.mono (by simp))) (Nat.le_refl _) _⟩
                rw [HP2.out, ← hC]
                rfl
      · rw [decide_eq_false hsp]
        have HP2 := hide (show pparse b = (zP, 7) by rw [HP.out, if_neg (fun hh => hsp (HPS.out.2 hh))])
        have Hr3 := hide ((HB3.out.block w.heap.size (by simp)).trans Hr0.out)
        clear hb3 hsp
        go_wp2_with (refine wpList_store_row rfl _ _ _ rfl w.heap.size Z rfl rfl _ _ Hr3.out hzs rfl hzo ?_)
        refine bodyPost_ret (v := .tuple #[.agg Z, .int .i64 7]) (results_cell_row_tmp Tryz.results93 _ _ w.heap.size _ Z (0, 0) _ rfl (setRow_heap_same _ _ _ _ _ _ Hr3.out) hup rfl hzs (.int .i64 7) rfl) rfl ?_
        refine ⟨?_, below_setRow (HB0.out.trans (HB3.out.mono (by simp))) (Nat.le_refl _) _⟩
        rw [HP2.out, ← hZ]
        rfl
    · have HP := hide (show pparse b = (zP, (parseF b.length b 0 []).2) by unfold pparse; rw [if_neg h128, if_pos (by simp [he])])
      have Hr0 := hide hr0
      obtain ⟨a, c, rfl, _, hm, _, _⟩ := h
      generalize hE : (parseF b.length b 0 []).2 = er at *
      have hei : (((er : Nat) : Int) != 0) = true := by simp; omega
      clear hb1 hr0 hsh hE
      generalize hZ : pkC zP = Z at *
      go_enter Tryz.func93, Tryz.ntmps93
      go_wp2_with fail
      refine hP1.mono ?_
      clear hP1
      rintro e w2 ⟨out, L, rfl, hL, ho, hs2⟩
      have HB2 := hide (all_below (w := w.alloc (.cells Z 100)) (by exact ho.right) hs2)
      have Hr2 := hide ((HB2.out.block w.heap.size (by simp)).trans Hr0.out)
      obtain ⟨la, lc, rfl, _, _, _, _⟩ := Its.lay ho
      clear ho hs2 hL he
      go_wp2_with (refine wpList_store_row rfl _ _ _ rfl w.heap.size Z rfl rfl _ _ Hr2.out hzs rfl hzo ?_)
      refine bodyPost_ret (v := .tuple #[.agg Z, .int .i64 (er : Nat)]) (results_cell_row_tmp Tryz.results93 _ _ w.heap.size _ Z (0, 0) _ rfl (setRow_heap_same _ _ _ _ _ _ Hr2.out) hup rfl hzs (.int .i64 (er : Nat)) rfl) rfl ?_
      refine ⟨?_, below_setRow (HB0.out.trans (HB2.out.mono (by simp))) (Nat.le_refl _) _⟩
      rw [HP.out, ← hZ]
end Go.Proofs.YtgmpmlneoiagdaaGreatDoor
