/- record: Parse, and Same. -/
import Derived.Test.YtjmgnfpcieofkaaRec6
namespace Go.Proofs.Ytjmgnfpcieofkaa
open Go.ChangeShapes Go.WideShapes Go.ChangeAt Go.RowKit
set_option linter.unusedVariables false
set_option linter.unusedSimpArgs false

/-- what is wrong with bytes -/
def recErr (l : List UInt8) : Nat := if l.length ≠ 160 ∨ numS l 0 4 ≠ 827216706 then 7 else if numS l 156 4 ≠ chkN (l.take 156) then 8 else if (readS l).right = true ∧ recBytes (readS l) = l then 0 else 7
def recGot (l : List UInt8) : RecS := if recErr l = 0 then readS l else zeroS
def ParseEnd (l : List UInt8) (w : World) (e : Ending) (w' : World) : Prop := ∃ iv, e = .returned (.tuple #[.agg (recCells (recGot l) iv), .int .i64 (recErr l : Nat)]) ∧ (ownR iv (recGot l).init * all w).on w' ∧ Str w w'
abbrev zc : Array Value := #[.int .u32 0, .int .u32 0, .int .u32 0, .int .u32 0, .int .u8 0, .int .u32 0, nilV]
theorem zc_eq : recCells zeroS nilV = zc := by simp [recCells, zeroS, vb]
theorem zc_one : zc.all (·.oneCell') = true := by simp [Value.oneCell']
theorem zc_size (s : RecS) (v : Value) : zc.size = (recCells s v).size := (show zc.size = 7 from rfl).trans (show (recCells s v).size = 7 from rfl).symm
theorem ParseEnd.err {l : List UInt8} {w w' : World} {z : Nat} (he : recErr l = z) (hz : z ≠ 0) (hb : Below w.heap.size w w') (z' : Int) (hz' : z' = (z : Nat)) : ParseEnd l w (.returned (.tuple #[.agg zc, .int .i64 z'])) w' := by
  refine ⟨nilV, ?_, ?_, Str.below hb⟩
  · unfold recGot
    rw [he, if_neg hz, zc_eq, hz']
  · unfold recGot
    rw [he, if_neg hz]
    exact own_nil _ _ ((on_all w).below hb)

set_option maxRecDepth 100000 in
set_option maxHeartbeats 8000000 in
theorem recparse_any (v : Value) (l : List UInt8) (w : World) (h : IsBytes w v l) (hlen : l.length ≤ 1000000) :
    Calls Try.prog 86 #[v] w (ParseEnd l w) := by
  have hur := Try.underlying35
  have hsr : (Try.prog.info? 35).map (·.size) = some 7 := by kernel_rfl
  have hr0 := heap_alloc_new w (.cells zc 35)
  have hb := h.below (w' := w.alloc (.cells zc 35)) alloc1
  by_cases hl : l.length = 160
  · by_cases hk : numS l 0 4 = 827216706
    · by_cases hs : numS l 156 4 = chkN (l.take 156)
      · have hN0 := number_any _ l 0 _ hb (by omega) (by omega)
        have hN1 := number_any _ l 156 _ hb (by omega) (by omega)
        have hC := check_any _ l _ hb hl
        rw [← hs] at hC
        have e0 : ((numS l 0 4 : Nat) : Int) = 827216706 := by omega
        rw [e0] at hN0
        have HE := hide (show recErr l = if (readS l).right = true ∧ recBytes (readS l) = l then 0 else 7 by unfold recErr; rw [if_neg (by simp [hl, hk]), if_neg (by simp [hs])])
        have Hok := hide (readS_ok l hl)
        have h128 : Hid ((readS l).init.length ≤ 128) := hide (by simp only [readS, List.length_take]; omega)
        have Hw0 := hide (SP.on.alloc (on_all w) (.cells zc 35))
        have Hh := hide h
        generalize numS l 156 4 = ck at *
        obtain ⟨a, c, rfl, hc, hm, hla, hn⟩ := h
        have Hb := hide hb
        clear hs hk hla hn hb e0
        have Hl := hide hl
        rw [hl] at hN0 hN1 hC hc ⊢
        clear hl
        go_enter Try.func86, Try.ntmps86
        go_wp2_with fail
        refine hN0.mono ?_
        rintro e _ ⟨rfl, rfl⟩
        go_wp2_with fail
        refine hN1.mono ?_
        rintro e _ ⟨rfl, rfl⟩
        go_wp2_with fail
        refine hC.mono ?_
        rintro e w1 ⟨rfl, hb1⟩
        have Hw1 := hide (Hw0.out.below hb1)
        have HB1 := hide (Below.trans alloc1 (hb1.mono (by simp)))
        have hR := read_any _ l w1 (Hh.out.below HB1.out) Hl.out
        rw [Hl.out] at hR
        clear hb1 Hw0 hN0 hN1 hC hr0 Hb
        go_wp2_with fail
        refine hR.mono ?_
        clear hR
        rintro e w2 ⟨iv, rfl, hiv, hs2⟩
        have Hiv := hide (on_all_to hiv Hw1.out)
        have Hs2 := hide ((Str.below HB1.out).trans hs2)
        have hE := fun w4 hw4 => rencode_any (readS l) iv w4 Hok.out hw4
        obtain ⟨oa, oc, rfl, _, _, _, _⟩ := own_value hiv
        clear hiv hs2 Hw1
        have H3 := hide ((Hiv.out.alloc (.cells zc 35)).setRow (recCells (readS l) (.slice oa (readS l).init.length oc)))
        have Hs3 := hide ((Hs2.out.alloc (.cells zc 35)).setRow w2.heap.size (recCells (readS l) (.slice oa (readS l).init.length oc)))
        have hr2 := heap_alloc_new w2 (.cells zc 35)
        have hr3 := on_blk_mul H3.out
        have hr4 := H3.out.right
        rw [SP.mul_left_comm] at hr4
        replace hr4 := on_blk_mul hr4
        have hiv3 := own_bytes H3.out.right
        have hE2 := hE _ hiv3
        clear hE hiv3 Hiv Hs2
        generalize hR : readS l = R at *
        have HR := hide hR
        clear hR
        generalize hW3 : (w2.alloc (.cells zc 35)).setRow w2.heap.size (recCells R (.slice oa R.init.length oc)) = w3 at *
        have HW3 := hide hW3
        clear hW3
        go_wp2_with (first
          | (refine wpList_store_row rfl _ _ _ rfl w2.heap.size (recCells R _) rfl rfl _ _ hr2 hsr (zc_size _ _) (recCells_one _ _ _ _) ?_; rw [HW3.out])
          | (refine wpList_load_row rfl _ _ rfl w2.heap.size rfl _ (recCells R _) _ _ hr3 hur rfl hsr ?_))
        refine hE2.mono ?_
        have Hb3 := hide (all_below H3.out.right.right.right Hs3.out)
        have Hin := hide (Hh.out.below Hb3.out)
        have Ha3 := hide H3.out
        clear hE2 HW3 hr2 H3
        rintro e w5 (⟨hrt, out, rfl, ho5, hs5⟩ | ⟨hrt, rfl, hb5⟩)
        · have hb5 := all_below ho5.right hs5
          have h3' := (hb5.block _ (Array.getElem?_eq_some_iff.1 hr3).1).trans hr3
          have h4' := (hb5.block _ (Array.getElem?_eq_some_iff.1 hr4).1).trans hr4
          have hq := equal_any _ _ _ _ w5 (own_bytes ho5) ((Hh.out.below Hb3.out).below hb5)
          obtain ⟨oa5, oc5, rfl, _, _, _, _⟩ := own_value ho5
          have HB5 := hide (Hb3.out.trans (hb5.mono Hs3.out.size))
          have HA5 := hide (Ha3.out.below hb5)
          have HS5 := hide (Hs3.out.trans hs5)
          rw [Hl.out] at hq
          have HE2 := hide (show recErr l = if recBytes R = l then 0 else 7 by rw [HE.out, hrt]; simp)
          clear ho5 hb5 hr3 hr4 hs5 HE hrt Ha3
          go_wp2_with fail
          refine hq.mono ?_
          clear hq
          rintro e _ ⟨rfl, rfl⟩
          by_cases heq : recBytes R = l
          · rw [decide_eq_true heq]
            have HE3 := hide (show recErr l = 0 by rw [HE2.out, if_pos heq])
            clear heq HE2
            go_wp2_with (first
              | (refine wpList_store_row rfl _ _ _ rfl w.heap.size (recCells R _) rfl rfl _ _ h4' hsr (zc_size _ _) (recCells_one _ _ _ _) ?_)
              | (refine wpList_load_row rfl _ _ rfl w2.heap.size rfl _ (recCells R _) _ _ h3' hur rfl hsr ?_))
            refine bodyPost_ret (v := .tuple #[.agg (recCells R (.slice oa R.init.length oc)), .int .i64 0]) (results_cell_row_tmp Try.results86 _ _ w.heap.size _ (recCells R _) (0, 0) _ rfl (setRow_heap_same _ _ _ _ _ _ h4') hur rfl hsr (.int .i64 0) rfl) rfl ?_
            have hg : recGot l = R := by unfold recGot; rw [HE3.out, if_pos rfl, HR.out]
            refine ⟨.slice oa R.init.length oc, by rw [hg, HE3.out]; rfl, ?_, HS5.out.setRow _ _⟩
            rw [hg]
            have h5 := HA5.out.right
            rw [SP.mul_left_comm] at h5
            have h6 := (h5.setRow (recCells R (.slice oa R.init.length oc))).right
            exact h6
          · rw [decide_eq_false heq]
            have HE3 := hide (show recErr l = 7 by rw [HE2.out, if_neg heq])
            clear heq HE2
            go_wp2_with (refine wpList_store_row rfl _ _ _ rfl w.heap.size zc rfl rfl _ _ h4' hsr rfl zc_one ?_)
            refine bodyPost_ret (v := .tuple #[.agg zc, .int .i64 7]) (results_cell_row_tmp Try.results86 _ _ w.heap.size _ zc (0, 0) _ rfl (setRow_heap_same _ _ _ _ _ _ h4') hur rfl hsr (.int .i64 7) rfl) rfl ?_
            exact ParseEnd.err HE3.out (by decide) (below_setRow HB5.out (Nat.le_refl _) _) 7 rfl
        · have h4' := (hb5.block _ (Array.getElem?_eq_some_iff.1 hr4).1).trans hr4
          have HB5 := hide (Hb3.out.trans (hb5.mono Hs3.out.size))
          have HE3 := hide (show recErr l = 7 by rw [HE.out, hrt]; simp)
          clear hb5 hr3 hr4 HE hrt Ha3
          go_wp2_with (refine wpList_store_row rfl _ _ _ rfl w.heap.size zc rfl rfl _ _ h4' hsr rfl zc_one ?_)
          refine bodyPost_ret (v := .tuple #[.agg zc, .int .i64 7]) (results_cell_row_tmp Try.results86 _ _ w.heap.size _ zc (0, 0) _ rfl (setRow_heap_same _ _ _ _ _ _ h4') hur rfl hsr (.int .i64 7) rfl) rfl ?_
          exact ParseEnd.err HE3.out (by decide) (below_setRow HB5.out (Nat.le_refl _) _) 7 rfl
      · have hN0 := number_any _ l 0 _ hb (by omega) (by omega)
        have hN1 := number_any _ l 156 _ hb (by omega) (by omega)
        have hC := check_any _ l _ hb hl
        have e0 : ((numS l 0 4 : Nat) : Int) = 827216706 := by omega
        have e1 : (((numS l 156 4 : Nat) : Int) != ((chkN (l.take 156) : Nat) : Int)) = true := by simp; omega
        rw [e0] at hN0
        have HE := hide (show recErr l = 8 by unfold recErr; rw [if_neg (by simp [hl, hk]), if_pos (by simpa using hs)])
        generalize numS l 156 4 = ck at *
        generalize chkN (l.take 156) = cs at *
        obtain ⟨a, c, rfl, hc, hm, hla, hn⟩ := h
        clear hs hk hla hn hb e0
        have Hl := hide hl
        rw [hl] at hN0 hN1 hC hc ⊢
        clear hl
        go_enter Try.func86, Try.ntmps86
        go_wp2_with fail
        refine hN0.mono ?_
        rintro e _ ⟨rfl, rfl⟩
        go_wp2_with fail
        refine hN1.mono ?_
        rintro e _ ⟨rfl, rfl⟩
        go_wp2_with fail
        refine hC.mono ?_
        rintro e w1 ⟨rfl, hb1⟩
        have hr1 := (hb1.block w.heap.size (by simp)).trans hr0
        have HB1 := hide (Below.trans alloc1 (hb1.mono (by simp)))
        clear hb1 hr0 hN0 hN1 hC
        go_wp2_with (refine wpList_store_row rfl _ _ _ rfl w.heap.size zc rfl rfl _ _ hr1 hsr rfl zc_one ?_)
        refine bodyPost_ret (v := .tuple #[.agg zc, .int .i64 8]) (results_cell_row_tmp Try.results86 _ _ w.heap.size _ zc (0, 0) _ rfl (setRow_heap_same _ _ _ _ _ _ hr1) hur rfl hsr (.int .i64 8) rfl) rfl ?_
        exact ParseEnd.err HE.out (by decide) (below_setRow HB1.out (Nat.le_refl _) _) 8 rfl
    · have hN0 := number_any _ l 0 _ hb (by omega) (by omega)
      have e0 : (((numS l 0 4 : Nat) : Int) != 827216706) = true := by simp; omega
      have HE := hide (show recErr l = 7 by unfold recErr; rw [if_pos (by simp [hk])])
      generalize numS l 0 4 = ck at *
      obtain ⟨a, c, rfl, hc, hm, hla, hn⟩ := h
      clear hk hla hn hb
      rw [hl] at hN0 hc ⊢
      clear hl
      go_enter Try.func86, Try.ntmps86
      go_wp2_with fail
      refine hN0.mono ?_
      rintro e _ ⟨rfl, rfl⟩
      go_wp2_with (refine wpList_store_row rfl _ _ _ rfl w.heap.size zc rfl rfl _ _ hr0 hsr rfl zc_one ?_)
      refine bodyPost_ret (v := .tuple #[.agg zc, .int .i64 7]) (results_cell_row_tmp Try.results86 _ _ w.heap.size _ zc (0, 0) _ rfl (setRow_heap_same _ _ _ _ _ _ hr0) hur rfl hsr (.int .i64 7) rfl) rfl ?_
      exact ParseEnd.err HE.out (by decide) (below_setRow alloc1 (Nat.le_refl _) _) 7 rfl
  · have HE := hide (show recErr l = 7 by unfold recErr; rw [if_pos (by simp [hl])])
    obtain ⟨a, c, rfl, hc, hm, hla, hn⟩ := h
    have e0 : (((l.length : Nat) : Int) != 160) = true := by simp; omega
    clear hla hn hb hl
    go_enter Try.func86, Try.ntmps86
    go_wp2_with (refine wpList_store_row rfl _ _ _ rfl w.heap.size zc rfl rfl _ _ hr0 hsr rfl zc_one ?_)
    refine bodyPost_ret (v := .tuple #[.agg zc, .int .i64 7]) (results_cell_row_tmp Try.results86 _ _ w.heap.size _ zc (0, 0) _ rfl (setRow_heap_same _ _ _ _ _ _ hr0) hur rfl hsr (.int .i64 7) rfl) rfl ?_
    exact ParseEnd.err HE.out (by decide) (below_setRow alloc1 (Nat.le_refl _) _) 7 rfl
end Go.Proofs.Ytjmgnfpcieofkaa
