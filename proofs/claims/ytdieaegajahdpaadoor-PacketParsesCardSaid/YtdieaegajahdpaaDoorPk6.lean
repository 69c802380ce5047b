/- The document's packets: which bytes are one. -/
import Derived.Test.YtdieaegajahdpaaDoorPk5
import Derived.Deep.QuietTactic
import Derived.BigQuiet
import Derived.Test.YtdieaegajahdpaaDoorTlv4
namespace Go.Proofs.YtdieaegajahdpaaDoor
open Go.ChangeShapes Go.WideShapes Go.ChangeAt Go.RowKit
set_option linter.unusedVariables false
set_option linter.unusedSimpArgs false

theorem rpC_0 (p : PkS) (n : Nat) : (rpC p).setIfInBounds 0 (.int .u32 n) = rpC { p with hw := n } := by simp [rpC, rpL]
theorem rpC_1 (p : PkS) (n : Nat) : (rpC p).setIfInBounds 1 (.int .u32 n) = rpC { p with ver := n } := by simp [rpC, rpL]
theorem rpC_2 (p : PkS) (n : Nat) : (rpC p).setIfInBounds 2 (.int .u32 n) = rpC { p with sz := n } := by simp [rpC, rpL]
theorem rpC_3 (p : PkS) (t : UInt8) : (rpC p).setIfInBounds 3 (vb t) = rpC { p with ty := t } := by simp [rpC, rpL]
theorem rpC_4 (p : PkS) (k : Nat) (x : UInt8) (h : k < p.hash.length) : (rpC p).setIfInBounds (4 + k) (vb x) = rpC { p with hash := p.hash.set k x } := by
  apply Array.toList_inj.1
  simp only [rpC, rpL, Array.toList_setIfInBounds]
  rw [List.set_append_right _ _ (by simp), List.set_append_left _ _ (by simp; omega)]
  simp [vbs, List.map_set]
theorem rpC_36 (p : PkS) (k : Nat) (x : UInt8) (h : p.hash.length = 32) : (rpC p).setIfInBounds (36 + k) (vb x) = rpC { p with sig := p.sig.set k x } := by
  apply Array.toList_inj.1
  simp only [rpC, rpL, Array.toList_setIfInBounds]
  rw [List.set_append_right _ _ (by simp; omega), List.set_append_right _ _ (by simp [h]; omega)]
  simp only [List.length_cons, List.length_nil, List.length_map, h]
  rw [show 36 + k - (0 + 1 + 1 + 1 + 1) - 32 = k by omega]
  simp [vbs, List.map_set]
theorem set_take (s z : List UInt8) (k : Nat) (x : UInt8) (hx : s[k]? = some x) (hz : k < z.length) : (s.take k ++ z.drop k).set k x = s.take (k + 1) ++ z.drop (k + 1) := by
  obtain ⟨hs, rfl⟩ := List.getElem?_eq_some_iff.1 hx
  have hl : (s.take k).length = k := by rw [List.length_take]; omega
  rw [List.set_append_right _ _ (by omega), hl, Nat.sub_self, List.drop_eq_getElem_cons hz, List.set_cons_zero, List.take_succ_eq_append_getElem hs, List.append_assoc]
  rfl
theorem rp_cell (p : PkS) (X : World) (g : Nat) (t : TypeId) (hX : X.heap[g]? = some (.cells (rpC p) t (0, 0))) (k : Nat) (hk : k < (rpC p).size) : ∃ v, X.cell? ⟨g, k, Option.none⟩ = some v := by
  refine ⟨(rpC p)[k], ?_⟩
  rw [cell_of_row _ _ _ _ _ _ hX]
  simp [hk]

set_option maxRecDepth 100000 in
set_option maxHeartbeats 8000000 in
theorem rpparse_any (v : Value) (b : List UInt8) (w : World) (h : IsBytes w v b) (hlen : b.length ≤ 1000000) :
    Calls Tryd.prog 30 #[v] w (PkEnd rpC (pparse b) w) := by
  have hup := Tryd.underlying56
  have hz := rp_hz
  have hzs : (Tryd.prog.info? 56).map (·.size) = some (rpC zP).size := by kernel_rfl
  have hzo := rpC_one zP
  have HT := hide h
  obtain ⟨a, c, rfl, hc, hm, hla, hn⟩ := h
  unfold maxLen at hm
  have h0 := ((on_all w).alloc (.cells (rpC zP) 56)).alloc (.cells (rpC zP) 56)
  rw [World.size_alloc] at h0
  have hs0 := ((Str.refl w).alloc (.cells (rpC zP) 56)).alloc (.cells (rpC zP) 56)
  have H0 := hide h0
  have HS0 := hide hs0
  have hR0 := on_blk_mul h0.right
  have hP0 := on_blk_mul h0
  have hT := rtparse_any _ b _ (HT.out.below (all_below h0.right.right hs0)) hlen
  by_cases h128 : 128 < b.length
  · have HP := hide (show pparse b = (zP, 17) by unfold pparse; rw [if_pos h128])
    clear hT h0 hs0
    generalize hZ : rpC zP = Z at *
    have HZ := hide hZ
    clear hZ
    go_enter Tryd.func30, Tryd.ntmps30
    go_wp2_with (first
      | (refine wpList_store_row rfl _ _ _ rfl w.heap.size Z rfl rfl _ _ hR0 hzs rfl hzo ?_)
      | (refine wpList_load_row rfl _ _ rfl (w.heap.size + 1) rfl _ Z _ _ hP0 hup rfl hzs ?_))
    refine bodyPost_ret (v := .tuple #[.agg Z, .int .i64 17]) (results_cell_row_tmp Tryd.results30 _ _ w.heap.size _ Z (0, 0) _ rfl (setRow_heap_same _ _ _ _ _ _ hR0) hup rfl hzs (.int .i64 17) rfl) rfl ?_
    refine ⟨?_, below_setRow (all_below H0.out.right.right HS0.out) (Nat.le_refl _) _⟩
    rw [HP.out, HZ.out]
    rfl
  · generalize hZ : rpC zP = Z at *
    have HZ := hide hZ
    clear hZ
    by_cases he : (parseF b.length b 0 []).2 = 0
    · by_cases h121 : b.length = 121
      · have hb := HT.out.below (all_below h0.right.right hs0)
        obtain ⟨bg, bo, rfl⟩ := Lay.isAddr hla 0 (by simp; omega)
        have HEe := hide he
        rw [h121] at hb hc hT HT HEe ⊢
        have z2 : c ≠ 2 := by omega
        have z11 : c ≠ 11 := by omega
        have z17 : c ≠ 17 := by omega
        have y2 : (6 : Int) ≤ (c : Int) := by omega
        have y11 : (15 : Int) ≤ (c : Int) := by omega
        have y17 : (21 : Int) ≤ (c : Int) := by omega
        have HN : Hid (∀ (k : Nat) W, k + 4 ≤ 121 → IsBytes W (.slice (some ⟨bg, bo, Option.none⟩) 121 c) b → Calls Tryd.prog 56 #[.slice (some ⟨bg, bo + k, Option.none⟩) 4 (c - k)] W fun e w' => e = .returned (n32v (numS b k 4)) ∧ W = w') := hide fun k W hk hW => by
          have h1 := hW.mid12 k 4 (by omega)
          have h2 := rnumber12_any _ _ W h1 (by simp; omega)
          rw [numS_sub12 b k (by omega)] at h2
          exact h2
        have HP := hide (show pparse b = if pkB (pkAt b) = b then (pkAt b, 0) else (zP, 7) by
          unfold pparse
          rw [if_neg h128, if_neg (by simp [he])]
          by_cases hh : pkB (pkAt b) = b
          · rw [if_pos ⟨h121, hh⟩, if_pos hh]
          · rw [if_neg (fun e => hh e.2), if_neg hh])
        have H121 := hide h121
        have HC : Hid (∀ X, IsBytes X (.slice (some ⟨bg, bo, Option.none⟩) 121 c) b → ∀ k x, b[k]? = some x → X.cell? ⟨bg, bo + k, Option.none⟩ = some (vb x)) := hide fun X hX k x hx => by
          obtain ⟨_, _, e, _, _, hl, _⟩ := hX
          simp only [Value.slice.injEq] at e
          obtain ⟨rfl, _, rfl⟩ := e
          refine Lay.cell hl k ?_
          simp [vbs, hx]
        have HX : Hid (∀ k, k < 121 → ∃ x, b[k]? = some x) := hide fun k hk => ⟨_, List.getElem?_eq_getElem (by omega)⟩
        clear h0 hs0 hla hn hb h121 he h128 hlen
        go_enter Tryd.func30, Tryd.ntmps30
        go_wp2_with fail
        refine hT.mono ?_
        clear hT
        rintro e w2 ⟨out, L, rfl, hL, ho, hs2⟩
        rw [HEe.out]
        have HB2 := hide (all_below ho.right hs2)
        have HX0 := hide (H0.out.below HB2.out)
        have HS2 := hide (HS0.out.trans (Str.below HB2.out))
        obtain ⟨la, lc, rfl, _, _, _, _⟩ := Its.lay ho
        clear ho hs2 hL HB2 H0 HS0 hR0 hP0
        have eZ := HZ.out
        clear HZ
        subst eZ

        have hb1 := HT.out.below (all_below HX0.out.right.right HS2.out)
        have fr1 := frozen_of_row w2 (w.heap.size + 1) 0 _ _ (on_blk_mul HX0.out)
        have cc1 := (rp_cells _ w2 (w.heap.size + 1) _ (on_blk_mul HX0.out)).1
        have hN1 := HN.out 2 w2 (by omega) hb1
        go_wp2_with fail
        refine hN1.mono ?_
        clear hN1
        rintro e _ ⟨rfl, rfl⟩
        have hX1 := SP.on.setCell (i := 0) HX0.out (.int .u32 (numS b 2 4 : Nat))
        rw [rpC_0] at hX1
        have hSX1 := HS2.out.setCell ⟨w.heap.size + 1, 0, Option.none⟩ (.int .u32 (numS b 2 4 : Nat))
        have hb2 := HT.out.below (all_below hX1.right.right hSX1)
        have fr2 := frozen_of_row _ (w.heap.size + 1) 3 _ _ (on_blk_mul hX1)
        have cc2 := (rp_cells _ _ (w.heap.size + 1) _ (on_blk_mul hX1)).2.2.2
        obtain ⟨x8, hx8⟩ := HX.out 8 (by decide)
        have c8 := HC.out _ hb2 8 x8 hx8
        have Hx8 := hide hx8
        clear hx8
        have hX2 := SP.on.setCell (i := 3) hX1 (vb x8)
        rw [rpC_3] at hX2
        have HX2 := hide hX2
        have HSX2 := hide (hSX1.setCell ⟨w.heap.size + 1, 3, Option.none⟩ (vb x8))
        clear hX1 hX2 hSX1 hb1
        go_wp2_with fail
        clear fr1 cc1 hb2 fr2 cc2 c8
        generalize (w2.setCell ⟨w.heap.size + 1, 0, Option.none⟩ (.int .u32 (numS b 2 4 : Nat))).setCell ⟨w.heap.size + 1, 3, Option.none⟩ (vb x8) = X2 at *
        clear HX0 HS2
        have hb3 := HT.out.below (all_below HX2.out.right.right HSX2.out)
        have fr3 := frozen_of_row X2 (w.heap.size + 1) 1 _ _ (on_blk_mul HX2.out)
        have cc3 := (rp_cells _ X2 (w.heap.size + 1) _ (on_blk_mul HX2.out)).2.1
        have hN3 := HN.out 11 X2 (by omega) hb3
        go_wp2_with fail
        refine hN3.mono ?_
        clear hN3
        rintro e _ ⟨rfl, rfl⟩
        go_wp2_with fail
        have hX3 := SP.on.setCell (i := 1) HX2.out (.int .u32 (numS b 11 4 : Nat))
        rw [rpC_1] at hX3
        have HX3 := hide hX3
        have HSX3 := hide (HSX2.out.setCell ⟨w.heap.size + 1, 1, Option.none⟩ (.int .u32 (numS b 11 4 : Nat)))
        clear hX3 hb3 fr3 cc3 
        generalize X2.setCell ⟨w.heap.size + 1, 1, Option.none⟩ (.int .u32 (numS b 11 4 : Nat)) = X3 at *
        clear HX2 HSX2
        have hb4 := HT.out.below (all_below HX3.out.right.right HSX3.out)
        have fr4 := frozen_of_row X3 (w.heap.size + 1) 2 _ _ (on_blk_mul HX3.out)
        have cc4 := (rp_cells _ X3 (w.heap.size + 1) _ (on_blk_mul HX3.out)).2.2.1
        have hN4 := HN.out 17 X3 (by omega) hb4
        go_wp2_with fail
        refine hN4.mono ?_
        clear hN4
        rintro e _ ⟨rfl, rfl⟩
        go_wp2_with fail
        have hX4 := SP.on.setCell (i := 2) HX3.out (.int .u32 (numS b 17 4 : Nat))
        rw [rpC_2] at hX4
        have HX4 := hide hX4
        have HSX4 := hide (HSX3.out.setCell ⟨w.heap.size + 1, 2, Option.none⟩ (.int .u32 (numS b 17 4 : Nat)))
        clear hX4 hb4 fr4 cc4 
        generalize X3.setCell ⟨w.heap.size + 1, 2, Option.none⟩ (.int .u32 (numS b 17 4 : Nat)) = X4 at *
        clear HX3 HSX3
        obtain ⟨q, hq⟩ : ∃ q : PkS, q = { zP with hw := numS b 2 4, ty := x8, ver := numS b 11 4, sz := numS b 17 4 } := ⟨_, rfl⟩
        have HX5 : Hid ((blk (w.heap.size + 1) (.cells (rpC q) 56 (0, 0)) * (blk w.heap.size (.cells (rpC zP) 56 (0, 0)) * all w)).on X4) := hide (by rw [hq]; exact HX4.out)
        have hqh : q.hash = List.replicate 32 0 := by rw [hq]; rfl
        have hqs : q.sig = List.replicate 64 0 := by rw [hq]; rfl
        have Hqh := hide hqh
        have Hqs := hide hqs
        have Hq := hide hq
        clear hq hqh hqs HX4
        go_wp2_with fail
        go_loopw [7] (fun i wr => ∃ k : Nat, k ≤ 32 ∧ i = .int .i64 k ∧ (blk (w.heap.size + 1) (.cells (rpC { q with hash := (b.drop 23).take k ++ (List.replicate 32 0).drop k }) 56 (0, 0)) * (blk w.heap.size (.cells (rpC zP) 56 (0, 0)) * all w)).on wr ∧ Str w wr) (fun i _ => 32 - (intOf i).toNat)
        case atStart =>
          refine ⟨0, by omega, rfl, ?_, HSX4.out⟩
          have := HX5.out
          rw [show ({ q with hash := (b.drop 23).take 0 ++ (List.replicate 32 0).drop 0 } : PkS) = q by rw [← Hqh.out]; rfl]
          exact this
        case round =>
          obtain ⟨k, hk, rfl, hX, hS⟩ := hrel
          have HXk := hide hX
          have HSk := hide hS
          clear hX hS HX5 HSX4
          by_cases hlt : k < 32
          · obtain ⟨x, hx⟩ := HX.out (23 + k) (by omega)
            have cx := HC.out _ (HT.out.below (all_below HXk.out.right.right HSk.out)) (23 + k) x hx
            have hx' : (b.drop 23)[k]? = some x := by rw [List.getElem?_drop]; exact hx
            have hlk : ((b.drop 23).take k ++ (List.replicate 32 (0 : UInt8)).drop k).length = 32 := by rw [List.length_append, List.length_take, List.length_drop, H121.out, List.length_drop, List.length_replicate]; omega
            have Hnext := hide (set_take (b.drop 23) (List.replicate 32 0) k x hx' (by simp; omega))
            have Hlk := hide hlk
            generalize (b.drop 23).take k ++ (List.replicate 32 (0 : UInt8)).drop k = hs at *
            have hsz : (rpC { q with hash := hs }).size = 100 := by simp [rpC, rpL, Hlk.out, Hqs.out]
            obtain ⟨old, hold⟩ := rp_cell { q with hash := hs } wr _ _ (on_blk_mul HXk.out) (4 + k) (by rw [hsz]; omega)
            have fr := frozen_of_row wr (w.heap.size + 1) (4 + k) _ _ (on_blk_mul HXk.out)
            rw [show bo + (23 + k) = bo + (k + 23) by omega] at cx
            have cx2 := cx
            rw [show bo + (k + 23) = bo + (23 + k) by omega] at cx2
            clear hx hx' hlk hsz
            go_wp2_with fail
            have h2 := SP.on.setCell (i := 4 + k) HXk.out (vb x)
            rw [rpC_4 _ k x (by show k < hs.length; rw [Hlk.out]; omega)] at h2
            refine ⟨⟨k + 1, by omega, by simp, ?_, HSk.out.setCell _ _⟩, by simp [intOf]; omega⟩
            rw [← Hnext.out]
            exact h2
          · obtain rfl : k = 32 := by omega
            have h23 : (b.drop 23).take 32 ++ (List.replicate 32 (0 : UInt8)).drop 32 = (b.drop 23).take 32 := by simp
            rw [h23] at HXk
            obtain ⟨q2, hq2⟩ : ∃ q2 : PkS, q2 = { q with hash := (b.drop 23).take 32 } := ⟨_, rfl⟩
            rw [← hq2] at HXk
            have Hq2h : Hid (q2.hash.length = 32) := hide (by rw [hq2]; show ((b.drop 23).take 32).length = 32; rw [List.length_take, List.length_drop, H121.out]; rfl)
            have Hq2s : Hid (q2.sig = List.replicate 64 0) := hide (by rw [hq2]; exact Hqs.out)
            have Hq2 := hide hq2
            clear hq2 h23 hlt hk
            go_wp2_with fail
            go_loopw [8] (fun i wr => ∃ k : Nat, k ≤ 64 ∧ i = .int .i64 k ∧ (blk (w.heap.size + 1) (.cells (rpC { q2 with sig := (b.drop 57).take k ++ (List.replicate 64 0).drop k }) 56 (0, 0)) * (blk w.heap.size (.cells (rpC zP) 56 (0, 0)) * all w)).on wr ∧ Str w wr) (fun i _ => 64 - (intOf i).toNat)
            case atStart =>
              refine ⟨0, by omega, rfl, ?_, HSk.out⟩
              have := HXk.out
              rw [show ({ q2 with sig := (b.drop 57).take 0 ++ (List.replicate 64 0).drop 0 } : PkS) = q2 by rw [← Hq2s.out]; rfl]
              exact this
            case round =>
              obtain ⟨k, hk, rfl, hX, hS⟩ := hrel
              have HXm := hide hX
              have HSm := hide hS
              clear hX hS HXk HSk
              by_cases hlt : k < 64
              · obtain ⟨x, hx⟩ := HX.out (57 + k) (by omega)
                have cx := HC.out _ (HT.out.below (all_below HXm.out.right.right HSm.out)) (57 + k) x hx
                have hx' : (b.drop 57)[k]? = some x := by rw [List.getElem?_drop]; exact hx
                have hlk : ((b.drop 57).take k ++ (List.replicate 64 (0 : UInt8)).drop k).length = 64 := by rw [List.length_append, List.length_take, List.length_drop, H121.out, List.length_drop, List.length_replicate]; omega
                have Hnext := hide (set_take (b.drop 57) (List.replicate 64 0) k x hx' (by simp; omega))
                have Hlk := hide hlk
                generalize (b.drop 57).take k ++ (List.replicate 64 (0 : UInt8)).drop k = hs at *
                have hsz : (rpC { q2 with sig := hs }).size = 100 := by simp [rpC, rpL, Hlk.out, Hq2h.out]
                obtain ⟨old, hold⟩ := rp_cell { q2 with sig := hs } wr _ _ (on_blk_mul HXm.out) (36 + k) (by rw [hsz]; omega)
                have fr := frozen_of_row wr (w.heap.size + 1) (36 + k) _ _ (on_blk_mul HXm.out)
                clear hx hx' hlk hsz
                go_wp2_with fail
                have h2 := SP.on.setCell (i := 36 + k) HXm.out (vb x)
                rw [rpC_36 _ k x (by exact Hq2h.out)] at h2
                refine ⟨⟨k + 1, by omega, by simp, ?_, HSm.out.setCell _ _⟩, by simp [intOf]; omega⟩
                rw [← Hnext.out]
                exact h2
              · obtain rfl : k = 64 := by omega
                have h57 : (b.drop 57).take 64 ++ (List.replicate 64 (0 : UInt8)).drop 64 = (b.drop 57).take 64 := by simp
                rw [h57] at HXm
                have hall : ({ q2 with sig := (b.drop 57).take 64 } : PkS) = pkAt b := by
                  rw [Hq2.out, Hq.out]
                  unfold pkAt
                  have : b.getD 8 0 = x8 := by rw [List.getD_eq_getElem?_getD, Hx8.out]; rfl
                  rw [this]
                rw [hall] at HXm
                have hok := pkAt_ok H121.out
                clear h57 hall hlt hk Hq Hqh Hqs Hq2 Hq2s Hq2h Hx8
                generalize pkAt b = R at *
                have Hok := hide hok
                have hsz : (Tryd.prog.info? 56).map (·.size) = some (rpC R).size := by rw [rpC_size hok]; kernel_rfl
                have hzr : (rpC zP).size = (rpC R).size := by rw [rpC_size hok]; rfl
                have Hsz := hide hsz
                have Hzr := hide hzr
                have Hone := hide (rpC_one R)
                have hgp := on_blk_mul HXm.out
                have hE := rpencode_any R hok wr
                clear hok hsz hzr
                generalize hRC : rpC R = RC at *
                have HRC := hide hRC
                clear hRC
                go_wp2_with (refine wpList_load_row rfl _ _ rfl (w.heap.size + 1) rfl _ RC _ _ hgp hup rfl Hsz.out ?_)
                refine hE.mono ?_
                clear hE hgp
                rintro e w5 ⟨out5, rfl, ho5, hs5⟩
                have HF := hide (on_all_to ho5 HXm.out)
                have HS5 := hide (HSm.out.trans hs5)
                have Hlo := hide (pkB_len Hok.out)
                clear ho5 hs5 HXm HSm
                unfold ownT at HF
                rw [Hlo.out] at HF
                generalize pkB R = outl at *
                obtain ⟨og, oc5, rfl, hc5, _⟩ := own_block HF.out (by omega)
                go_wp2_with fail
                go_loopw [10] (fun i wr => ∃ k : Nat, k ≤ 121 ∧ i = .int .i64 k ∧ (∀ j, j < k → b[j]? = outl[j]?) ∧ (own 5 1 (.slice (some ⟨og, 0, Option.none⟩) 121 oc5) 121 (vbs outl) * (blk (w.heap.size + 1) (.cells RC 56 (0, 0)) * (blk w.heap.size (.cells (rpC zP) 56 (0, 0)) * all w))).on wr ∧ Str w wr) (fun i _ => 121 - (intOf i).toNat)
                case atStart => exact ⟨0, by omega, rfl, fun j hj => by omega, HF.out, HS5.out⟩
                case round =>
                  obtain ⟨k, hk, rfl, hpre, hF, hstr⟩ := hrel
                  have Hpre := hide hpre
                  have HF2 := hide hF
                  have Hstr := hide hstr
                  clear hpre hF hstr HF HS5
                  by_cases hlt : k < 121
                  · obtain ⟨x, hx⟩ := HX.out k hlt
                    have c1 := HC.out _ (HT.out.below (all_below HF2.out.right.right.right Hstr.out)) k x hx
                    obtain ⟨y, hy⟩ : ∃ y, outl[k]? = some y := ⟨_, List.getElem?_eq_getElem (by rw [Hlo.out]; exact hlt)⟩
                    have c2 := own_cell HF2.out k (vb y) (by simp [vbs, hy])
                    have hkc : (k : Int) < 121 := by omega
                    have hk0 : (0 : Int) ≤ (k : Int) := by omega
                    have Hx := hide hx
                    have Hy := hide hy
                    clear hx hy
                    by_cases hxy : x = y
                    · have exy : (((x.toNat : Nat) : Int) != ((y.toNat : Nat) : Int)) = false := by rw [hxy]; simp
                      have Hxy := hide hxy
                      clear hxy
                      go_wp2_with fail
                      go_quiet (fail)
                      go_wp2_with fail
                      refine ⟨⟨k + 1, by omega, by simp, ?_, HF2.out.drewN _, Hstr.out.drewN _⟩, by simp [intOf]; omega⟩
                      intro j hj
                      by_cases hjk : j < k
                      · exact Hpre.out j hjk
                      · obtain rfl : j = k := by omega
                        rw [Hx.out, Hy.out, Hxy.out]
                    · have exy : (((x.toNat : Nat) : Int) != ((y.toNat : Nat) : Int)) = true := by
                        have : x.toNat ≠ y.toNat := fun h => hxy (UInt8.toNat_inj.1 h)
                        simp; omega
                      have HE7 := hide (show pparse b = (zP, 7) by
                        rw [HP.out, if_neg]
                        intro e
                        have h1 := Hx.out
                        rw [← e, Hy.out] at h1
                        exact hxy (Option.some.inj h1).symm)
                      clear hxy
                      go_wp2_with fail
                      go_quiet (fail)
                      have hF7 := HF2.out.drewN nq
                      have h0' := on_blk_mul hF7.right.right
                      have HB7 := hide (all_below hF7.right.right.right (Hstr.out.drewN nq))
                      clear hF7
                      generalize wr.drewN nq = X7 at *
                      generalize hZ2 : rpC zP = Z2 at *
                      have HZ2 := hide hZ2
                      clear hZ2
                      go_wp2_with (refine wpList_store_row rfl _ _ _ rfl w.heap.size Z2 rfl rfl _ _ h0' hzs rfl hzo ?_)
                      refine bodyPost_ret (v := .tuple #[.agg Z2, .int .i64 7]) (results_cell_row_tmp Tryd.results30 _ _ w.heap.size _ Z2 (0, 0) _ rfl (setRow_heap_same _ _ _ _ _ _ h0') hup rfl hzs (.int .i64 7) rfl) rfl ?_
                      refine ⟨?_, below_setRow HB7.out (Nat.le_refl _) _⟩
                      rw [HE7.out, HZ2.out]
                      rfl
                  · obtain rfl : k = 121 := by omega
                    have heq : outl = b := List.ext_getElem? fun j => by
                      rcases Nat.lt_or_ge j 121 with hj | hj
                      · exact (Hpre.out j hj).symm
                      · rw [List.getElem?_eq_none (by rw [Hlo.out]; exact hj), List.getElem?_eq_none (by rw [H121.out]; exact hj)]
                    have HE0 := hide (show pparse b = (R, 0) by rw [HP.out, if_pos heq])
                    have hgp := on_blk_mul HF2.out.right
                    have hgr := on_blk_mul HF2.out.right.right
                    have HB9 := hide (all_below HF2.out.right.right.right Hstr.out)
                    clear heq Hpre hlt hk
                    have Hzr2 : Hid ((rpC zP).size = RC.size) := hide (by rw [Hzr.out])
                    generalize rpC zP = Z2 at *
                    go_wp2_with (first
                      | (refine wpList_store_row rfl _ _ _ rfl w.heap.size RC rfl rfl _ _ hgr Hsz.out Hzr2.out Hone.out ?_)
                      | (refine wpList_load_row rfl _ _ rfl (w.heap.size + 1) rfl _ RC _ _ hgp hup rfl Hsz.out ?_))
                    refine bodyPost_ret (v := .tuple #[.agg RC, .int .i64 0]) (results_cell_row_tmp Tryd.results30 _ _ w.heap.size _ RC (0, 0) _ rfl (setRow_heap_same _ _ _ _ _ _ hgr) hup rfl Hsz.out (.int .i64 0) rfl) rfl ?_
                    refine ⟨?_, below_setRow HB9.out (Nat.le_refl _) _⟩
                    rw [HE0.out, HRC.out]
                    rfl
      · have HP := hide (show pparse b = (zP, 7) by unfold pparse; rw [if_neg h128, if_neg (by simp [he]), if_neg (fun hh => h121 hh.1)])
        have e1 : (((b.length : Nat) : Int) != 121) = true := by simp; omega
        have HEe := hide he
        clear h0 hs0 h121 he hR0 hP0
        go_enter Tryd.func30, Tryd.ntmps30
        go_wp2_with fail
        refine hT.mono ?_
        clear hT
        rintro e w2 ⟨out, L, rfl, hL, ho, hs2⟩
        rw [HEe.out]
        have HB2 := hide (all_below ho.right hs2)
        have h2 := H0.out.below HB2.out
        have hR2 := on_blk_mul h2.right
        have hP2 := on_blk_mul h2
        have HS2 := hide (HS0.out.trans (Str.below HB2.out))
        have H2 := hide h2
        obtain ⟨la, lc, rfl, _, _, _, _⟩ := Its.lay ho
        clear ho hs2 h2 hL
        go_wp2_with (first
          | (refine wpList_store_row rfl _ _ _ rfl w.heap.size Z rfl rfl _ _ hR2 hzs rfl hzo ?_)
          | (refine wpList_load_row rfl _ _ rfl (w.heap.size + 1) rfl _ Z _ _ hP2 hup rfl hzs ?_))
        refine bodyPost_ret (v := .tuple #[.agg Z, .int .i64 7]) (results_cell_row_tmp Tryd.results30 _ _ w.heap.size _ Z (0, 0) _ rfl (setRow_heap_same _ _ _ _ _ _ hR2) hup rfl hzs (.int .i64 7) rfl) rfl ?_
        refine ⟨?_, below_setRow (all_below H2.out.right.right HS2.out) (Nat.le_refl _) _⟩
        rw [HP.out, HZ.out]
        rfl
    · have HP := hide (show pparse b = (zP, (parseF b.length b 0 []).2) by unfold pparse; rw [if_neg h128, if_pos (by simp [he])])
      generalize hE : (parseF b.length b 0 []).2 = er at *
      have hei : (((er : Nat) : Int) != 0) = true := by simp; omega
      have HEr := hide hE
      clear h0 hs0 hE hR0 hP0
      go_enter Tryd.func30, Tryd.ntmps30
      go_wp2_with fail
      refine hT.mono ?_
      clear hT
      rintro e w2 ⟨out, L, rfl, hL, ho, hs2⟩
      rw [HEr.out]
      have HB2 := hide (all_below ho.right hs2)
      have h2 := H0.out.below HB2.out
      have hR2 := on_blk_mul h2.right
      have hP2 := on_blk_mul h2
      have HS2 := hide (HS0.out.trans (Str.below HB2.out))
      have H2 := hide h2
      obtain ⟨la, lc, rfl, _, _, _, _⟩ := Its.lay ho
      clear ho hs2 h2 hL he
      go_wp2_with (first
        | (refine wpList_store_row rfl _ _ _ rfl w.heap.size Z rfl rfl _ _ hR2 hzs rfl hzo ?_)
        | (refine wpList_load_row rfl _ _ rfl (w.heap.size + 1) rfl _ Z _ _ hP2 hup rfl hzs ?_))
      refine bodyPost_ret (v := .tuple #[.agg Z, .int .i64 (er : Nat)]) (results_cell_row_tmp Tryd.results30 _ _ w.heap.size _ Z (0, 0) _ rfl (setRow_heap_same _ _ _ _ _ _ hR2) hup rfl hzs (.int .i64 (er : Nat)) rfl) rfl ?_
      refine ⟨?_, below_setRow (all_below H2.out.right.right HS2.out) (Nat.le_refl _) _⟩
      rw [HP.out, HZ.out]
end Go.Proofs.YtdieaegajahdpaaDoor
