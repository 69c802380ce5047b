/- record: what bytes say. -/
import Derived.Test.YtjmgnfpcieofkaaRec5
import Derived.Test.YtjmgnfpcieofkaaGBase
namespace Go.Proofs.Ytjmgnfpcieofkaa
open Go.ChangeShapes Go.WideShapes Go.ChangeAt Go.RowKit
set_option linter.unusedVariables false
set_option linter.unusedSimpArgs false

/-- what bytes say -/
def readS (l : List UInt8) : RecS := ⟨numS l 4 4, numS l 8 4, numS l 12 4, numS l 16 4, l.getD 20 0, numS l 24 4, (l.drop 28).take (min (l.getD 21 0).toNat 128)⟩
theorem readS_ok (l : List UInt8) (h : l.length = 160) : (readS l).Ok := by
  refine ⟨numS_lt l 4 4, numS_lt l 8 4, numS_lt l 12 4, numS_lt l 16 4, numS_lt l 24 4, ?_⟩
  simp only [readS, List.length_take]
  omega
def zeroS : RecS := ⟨0, 0, 0, 0, 0, 0, []⟩
abbrev nilV : Value := .slice Option.none 0 0

theorem recCells_one (s : RecS) (a : Option Addr) (n c : Nat) : (recCells s (.slice a n c)).all (·.oneCell') = true := by simp [Value.oneCell', vb]
theorem recCells_size (s s' : RecS) (v v' : Value) : (recCells s v).size = (recCells s' v').size := (show (recCells s v).size = 7 from rfl).trans (show (recCells s' v').size = 7 from rfl).symm
theorem refCells_size (s s' : RecS) (v v' : Value) : (refCells s v).size = (refCells s' v').size := (show (refCells s v).size = 7 from rfl).trans (show (refCells s' v').size = 7 from rfl).symm
theorem refCells_one (s : RecS) (a : Option Addr) (n c : Nat) : (refCells s (.slice a n c)).all (·.oneCell') = true := by simp [Value.oneCell', vb]
theorem IsBytes.mid {w : World} {g off n cap : Nat} {l : List UInt8} (h : IsBytes w (.slice (some ⟨g, off, Option.none⟩) n cap) l) (a k : Nat) (hk : a + k ≤ l.length) : IsBytes w (.slice (some ⟨g, off + a, Option.none⟩) k (cap - a)) ((l.drop a).take k) := by
  obtain ⟨ad, c, e, h1, h2, h3, _⟩ := h
  simp only [Value.slice.injEq] at e
  obtain ⟨rfl, rfl, rfl⟩ := e
  refine ⟨_, _, by rw [List.length_take, List.length_drop, Nat.min_eq_left (by omega)], by simp; omega, by omega, ?_, by simp⟩
  have := (h3.drop a).take k
  rwa [← List.map_drop, ← List.map_take] at this

set_option maxRecDepth 100000 in
set_option maxHeartbeats 8000000 in
theorem read_any (v : Value) (l : List UInt8) (w : World) (h : IsBytes w v l) (hl : l.length = 160) :
    Calls Try.prog 111 #[v] w fun e w' => ∃ iv, e = .returned (.agg (recCells (readS l) iv)) ∧ (ownR iv (readS l).init * all w).on w' ∧ Str w w' := by
  have Hb := hide h
  obtain ⟨a, c, rfl, hc, hm, hla, hn⟩ := h
  obtain ⟨bg, bo, rfl⟩ := Lay.isAddr hla 0 (by simp; omega)
  have Hla := hide hla
  clear hla hn
  unfold maxLen at hm
  have Hc := hide hc
  have hc160 : 160 ≤ c := by omega
  rw [hl]
  rw [hl] at Hb
  go_enter Try.func111, Try.ntmps111
  go_wp2_with fail
  have hx0 : (blk w.heap.size (.cells (recCells zeroS nilV) 35 (0, 0)) * all w).on (w.alloc (.cells (recCells zeroS nilV) 35)) := (on_all w).alloc _
  have Hx0 := hide hx0
  have c20 : Hid (∀ X, Stay (w.alloc (.cells (recCells zeroS nilV) 35)) X → X.cell? ⟨bg, bo + 20, Option.none⟩ = some (vb (l.getD 20 0))) := hide fun X hT => Lay.cell ((Hla.out.below alloc1).below hT) 20 (by rw [vbs_get l 20 (by omega)]; congr 2; rw [List.getD_eq_getElem?_getD, List.getElem?_eq_getElem (by omega)]; rfl)
  have c21 : Hid (∀ X, Below w.heap.size w X → X.cell? ⟨bg, bo + 21, Option.none⟩ = some (vb (l.getD 21 0))) := hide fun X hT => Lay.cell (Hla.out.below hT) 21 (by rw [vbs_get l 21 (by omega)]; congr 2; rw [List.getD_eq_getElem?_getD, List.getElem?_eq_getElem (by omega)]; rfl)
  clear hx0
  refine wp_region_tail 15 [isV (.slice (some ⟨bg, bo, Option.none⟩) 160 c), isV (u32v (numS l 4 4)), isV (.slice (some ⟨bg, bo, Option.none⟩) 160 c), isV (u32v (numS l 8 4)), isV (.slice (some ⟨bg, bo, Option.none⟩) 160 c), isV (u32v (numS l 12 4)), isV (.slice (some ⟨bg, bo, Option.none⟩) 160 c), isV (u32v (numS l 16 4)), isV (.slice (some ⟨bg, bo, Option.none⟩) 160 c), isV (.pointer (some ⟨bg, bo + 20, Option.none⟩)), isV (vb (l.getD 20 0)), isV (.slice (some ⟨bg, bo, Option.none⟩) 160 c), isV (u32v (numS l 24 4)), isV (.agg (recCells (readS l) nilV)), (fun v X => ∃ g, v = .pointer (some ⟨g, 0, Option.none⟩) ∧ (blk g (.cells (recCells zeroS nilV) 35 (0, 0)) * (blk w.heap.size (.cells (recCells zeroS nilV) 35 (0, 0)) * all w)).on X)]
    (by simp only [List.take_succ_cons, List.take_zero]; rfl) (by simp only [List.drop_succ_cons, List.drop_zero]; rfl) (by kernel_rfl) (by kernel_rfl) (by kernel_rfl) (by decide) rfl ?keep ?todo ?rest
  case keep => exact ⟨Keep.isV _, Keep.isV _, Keep.isV _, Keep.isV _, Keep.isV _, Keep.isV _, Keep.isV _, Keep.isV _, Keep.isV _, Keep.isV _, Keep.isV _, Keep.isV _, Keep.isV _, Keep.isV _, fun _ _ _ ⟨g, h1, h2⟩ k => ⟨g, h1, SP.on.below h2 k⟩, trivial⟩
  case todo =>
      refine ⟨?_, ?_, ?_, ?_, ?_, ?_, ?_, ?_, ?_, ?_, ?_, ?_, ?_, ?_, ?_, trivial⟩
      · exact fun ev X hT hb hk hf => OpOk.move rfl hk.1 ⟨rfl, Stay.refl _⟩
      · intro ev X hT hb hk hf
        have e0 : ev (.tmp 5) = (.slice (some ⟨bg, bo, Option.none⟩) 160 c) := hf.1
        refine OpOk.enters (f := 110) (args := #[(.slice (some ⟨bg, bo, Option.none⟩) 160 c), .int .i64 4]) (W' := X) (by simp [execOp, resolve, invoke, e0, hb.1, hb.2.1, go_sem]) ((number_any _ l 4 X ((Hb.out.below alloc1).below hT) (by omega) (by omega)).mono ?_)
        rintro e X2 ⟨rfl, rfl⟩
        exact ⟨_, rfl, rfl, Stay.refl _⟩
      · exact fun ev X hT hb hk hf => OpOk.move rfl hk.1 ⟨rfl, Stay.refl _⟩
      · intro ev X hT hb hk hf
        have e0 : ev (.tmp 7) = (.slice (some ⟨bg, bo, Option.none⟩) 160 c) := hf.1
        refine OpOk.enters (f := 110) (args := #[(.slice (some ⟨bg, bo, Option.none⟩) 160 c), .int .i64 8]) (W' := X) (by simp [execOp, resolve, invoke, e0, hb.1, hb.2.1, go_sem]) ((number_any _ l 8 X ((Hb.out.below alloc1).below hT) (by omega) (by omega)).mono ?_)
        rintro e X2 ⟨rfl, rfl⟩
        exact ⟨_, rfl, rfl, Stay.refl _⟩
      · exact fun ev X hT hb hk hf => OpOk.move rfl hk.1 ⟨rfl, Stay.refl _⟩
      · intro ev X hT hb hk hf
        have e0 : ev (.tmp 9) = (.slice (some ⟨bg, bo, Option.none⟩) 160 c) := hf.1
        refine OpOk.enters (f := 110) (args := #[(.slice (some ⟨bg, bo, Option.none⟩) 160 c), .int .i64 12]) (W' := X) (by simp [execOp, resolve, invoke, e0, hb.1, hb.2.1, go_sem]) ((number_any _ l 12 X ((Hb.out.below alloc1).below hT) (by omega) (by omega)).mono ?_)
        rintro e X2 ⟨rfl, rfl⟩
        exact ⟨_, rfl, rfl, Stay.refl _⟩
      · exact fun ev X hT hb hk hf => OpOk.move rfl hk.1 ⟨rfl, Stay.refl _⟩
      · intro ev X hT hb hk hf
        have e0 : ev (.tmp 11) = (.slice (some ⟨bg, bo, Option.none⟩) 160 c) := hf.1
        refine OpOk.enters (f := 110) (args := #[(.slice (some ⟨bg, bo, Option.none⟩) 160 c), .int .i64 16]) (W' := X) (by simp [execOp, resolve, invoke, e0, hb.1, hb.2.1, go_sem]) ((number_any _ l 16 X ((Hb.out.below alloc1).below hT) (by omega) (by omega)).mono ?_)
        rintro e X2 ⟨rfl, rfl⟩
        exact ⟨_, rfl, rfl, Stay.refl _⟩
      · exact fun ev X hT hb hk hf => OpOk.move rfl hk.1 ⟨rfl, Stay.refl _⟩
      · intro ev X hT hb hk hf
        have e0 : ev (.tmp 13) = (.slice (some ⟨bg, bo, Option.none⟩) 160 c) := hf.1
        exact OpOk.run (v := .pointer (some ⟨bg, bo + 20, Option.none⟩)) (W' := X) (by simp [execOp, e0, hb.1, go_sem]) ⟨rfl, Stay.refl _⟩
      · intro ev X hT hb hk hf
        have e0 : ev (.tmp 14) = .pointer (some ⟨bg, bo + 20, Option.none⟩) := hf.1
        have cW := c20.out X hT
        exact OpOk.run (v := vb (l.getD 20 0)) (W' := X) (by simp [execOp, e0, cW, go_sem]) ⟨rfl, Stay.refl _⟩
      · exact fun ev X hT hb hk hf => OpOk.move rfl hk.1 ⟨rfl, Stay.refl _⟩
      · intro ev X hT hb hk hf
        have e0 : ev (.tmp 16) = (.slice (some ⟨bg, bo, Option.none⟩) 160 c) := hf.1
        refine OpOk.enters (f := 110) (args := #[(.slice (some ⟨bg, bo, Option.none⟩) 160 c), .int .i64 24]) (W' := X) (by simp [execOp, resolve, invoke, e0, hb.1, hb.2.1, go_sem]) ((number_any _ l 24 X ((Hb.out.below alloc1).below hT) (by omega) (by omega)).mono ?_)
        rintro e X2 ⟨rfl, rfl⟩
        exact ⟨_, rfl, rfl, Stay.refl _⟩
      · intro ev X hT hb hk hf
        have e0 : ev (.tmp 6) = u32v (numS l 4 4) := hf.1
        have e1 : ev (.tmp 8) = u32v (numS l 8 4) := hf.2.1
        have e2 : ev (.tmp 10) = u32v (numS l 12 4) := hf.2.2.1
        have e3 : ev (.tmp 12) = u32v (numS l 16 4) := hf.2.2.2.1
        have e4 : ev (.tmp 15) = vb (l.getD 20 0) := hf.2.2.2.2.1
        have e5 : ev (.tmp 17) = u32v (numS l 24 4) := hf.2.2.2.2.2.1
        exact OpOk.run (v := .agg (recCells (readS l) nilV)) (W' := X) (by simp [execOp, e0, e1, e2, e3, e4, e5, go_sem, readS]) ⟨rfl, Stay.refl _⟩
      · intro ev X hT hb hk hf
        exact OpOk.run (v := .pointer (some ⟨X.heap.size, 0, Option.none⟩)) (W' := X.alloc (.cells (recCells zeroS nilV) 35)) (by simp [execOp, go_sem, zeroS]; rfl) ⟨⟨_, rfl, (Hx0.out.below hT).alloc _⟩, (Below.refl _ _).alloc (Nat.le_refl _) _⟩
  case rest =>
    intro X hT
    rintro v0 - v1 - v2 - v3 - v4 - v5 - v6 - v7 - v8 - v9 - v10 - v11 - v12 - _ rfl _ ⟨g, rfl, hg⟩
    have hgc := on_blk_mul hg
    have hin : (readS l).init = (l.drop 28).take (min (l.getD 21 0).toNat 128) := rfl
    have Hin := hide hin
    have HsX := hide ((Str.below alloc1).trans (Str.below hT))
    have Hg := hide hg
    clear hg hin
    generalize hRR : readS l = R at *
    have HR := hide hRR
    clear hRR
    go_wp2
    refine Rest.done ?_
    refine wpList_store_row rfl _ _ _ rfl g (recCells R nilV) rfl rfl _ _ hgc (by kernel_rfl) (recCells_size _ _ _ _) (recCells_one _ _ _ _) ?_
    have Hg2 := hide (Hg.out.setRow (recCells R nilV))
    have HsX2 := hide (HsX.out.setRow g (recCells R nilV))
    clear hgc Hg hT HsX
    generalize X.setRow g (recCells R nilV) = X1 at *
    have hbb := Hb.out.below (all_below Hg2.out.right.right HsX2.out)
    have c21' := c21.out X1 (all_below Hg2.out.right.right HsX2.out)
    generalize l.getD 21 0 = c21v at *
    have hmin := UInt8.toNat_lt c21v
    have HbX := hide hbb
    clear hbb c21 hc Hc
    have hmn : (min ((c21v.toNat : Nat) : Int) 128) = ((min c21v.toNat 128 : Nat) : Int) := by omega
    have hnle : min c21v.toNat 128 ≤ 128 := by omega
    generalize min c21v.toNat 128 = N at *
    have Hmn := hide hmn
    clear hmn
    have hu := Try.underlying33
    go_wp2_with fail
    all_goals
      have f1 : (28 + (N : Int)).toNat = 28 + N := by omega
      have f2 : (28 : Int) ≤ 28 + (N : Int) := by omega
      have f3 : (28 : Int) + (N : Int) ≤ (c : Int) := by omega
      have f4 : (0 : Int) ≤ 28 + (N : Int) := by omega
      have f5 : IntKind.i64.wrap (28 + (N : Int)) = 28 + (N : Int) := IntWalk.i64_in _ (by omega)
      have hz0 : c ≠ 28 := by omega
      have hnews : Hid (∀ W, Stay X1 W → IsBytes W (.slice (some ⟨bg, bo + 28, Option.none⟩) N (c - 28)) ((l.drop 28).take N)) := hide fun W hT => (HbX.out.below hT).mid 28 N (by omega)
      have hc6 : Hid (∀ W, Stay X1 W → W.cell? ⟨g, 6, Option.none⟩ = some nilV) := hide fun W hT => cell_of_row _ _ _ _ _ _ (on_blk_mul (Hg2.out.below hT))
      refine wp_region_tail 6 [isV (.pointer (some ⟨g, 6, Option.none⟩)), isV nilV, isV (.slice (some ⟨bg, bo, Option.none⟩) 160 c), isV (.int .i64 (N : Int)), isV (.int .i64 (28 + (N : Int))), isV (.slice (some ⟨bg, bo + 28, Option.none⟩) N (c - 28))]
        (by simp only [List.take_succ_cons, List.take_zero]; rfl) (by simp only [List.drop_succ_cons, List.drop_zero]; rfl) (by kernel_rfl) (by kernel_rfl) (by kernel_rfl) (by decide) rfl ?keep ?todo ?rest
      case keep => exact ⟨Keep.isV _, Keep.isV _, Keep.isV _, Keep.isV _, Keep.isV _, Keep.isV _, trivial⟩
      case todo =>
        refine ⟨?_, ?_, ?_, ?_, ?_, ?_, trivial⟩
        · intro ev X hT hb hk hf
          have e0 : ev (.tmp 3) = .pointer (some ⟨g, 0, Option.none⟩) := hk.1
          exact OpOk.run (v := .pointer (some ⟨g, 6, Option.none⟩)) (W' := X) (by simp [execOp, e0, go_sem]) ⟨rfl, Stay.refl _⟩
        · intro ev X hT hb hk hf
          have e0 : ev (.tmp 24) = .pointer (some ⟨g, 6, Option.none⟩) := hf.1
          have cW := hc6.out X hT
          exact OpOk.run (v := nilV) (W' := X) (by simp [execOp, e0, cW, go_sem]) ⟨rfl, Stay.refl _⟩
        · exact fun ev X hT hb hk hf => OpOk.move rfl hk.1 ⟨rfl, Stay.refl _⟩
        · exact fun ev X hT hb hk hf => OpOk.move rfl hk.1 ⟨by first | exact congrArg (Value.int .i64) (show ((c21v.toNat : Nat) : Int) = (N : Int) by have := Hmn.out; omega) | exact congrArg (Value.int .i64) (show (128 : Int) = (N : Int) by have := Hmn.out; omega), Stay.refl _⟩
        · intro ev X hT hb hk hf
          have e0 : ev (.tmp 27) = .int .i64 (N : Int) := hf.1
          exact OpOk.run (v := .int .i64 (28 + (N : Int))) (W' := X) (by simp [execOp, e0, hb.1, f5, go_sem]) ⟨rfl, Stay.refl _⟩
        · intro ev X hT hb hk hf
          have e0 : ev (.tmp 26) = .slice (some ⟨bg, bo, Option.none⟩) 160 c := hf.1
          have e1 : ev (.tmp 28) = .int .i64 (28 + (N : Int)) := hf.2.1
          exact OpOk.run (v := .slice (some ⟨bg, bo + 28, Option.none⟩) N (c - 28)) (W' := X) (by simp [execOp, e0, e1, hb.1, f1, f2, f3, f4, hz0, go_sem]) ⟨rfl, Stay.refl _⟩
      case rest =>
        intro X hT
        rintro _ rfl _ rfl _ rfl _ rfl _ rfl _ rfl
        have Hown := hide (own_nil 5 1 (Hg2.out.below hT))
        have Hnx := hide (hnews.out X hT)
        have Hst := hide (HsX2.out.trans (Str.below hT))
        clear hT hc6 hnews
        have hln : ((l.drop 28).take N).length = N := by rw [List.length_take, List.length_drop]; omega
        have Hin2 := hide (show R.init = (l.drop 28).take N from Hin.out)
        generalize (l.drop 28).take N = news at *
        go_wp2
        refine Rest.done ?_
        have hur := Try.underlying35
        have hsr : (Try.prog.info? 35).map (·.size) = some 7 := by kernel_rfl
        go_wp2_with (first
          | (at_builtin; refine wpList_append_bytes (F := blk g (.cells (recCells R nilV) 35 (0, 0)) * (blk w.heap.size (.cells (recCells zeroS nilV) 35 (0, 0)) * all w)) rfl _ _ 33 rfl 5 hu infoR _ [] news rfl Hown.out _ rfl Hnx.out (by simp; omega) ?_; intro v w2 ho hs; rw [List.nil_append, hln] at ho; obtain ⟨oa, oc, rfl, _, _, _, _⟩ := own_value ho; have Hst2 := hide ((Hst.out.trans hs).setCell ⟨g, 6, Option.none⟩ (.slice oa N oc)); have fr := frozen_of_row _ _ 6 _ _ (on_blk_mul ho.right); have cc := cell_of_row _ _ 6 _ _ _ (on_blk_mul ho.right); have ho2 := ho; rw [SP.mul_left_comm] at ho2; have h3 := SP.on.setCell (i := 6) ho2 (.slice oa N oc); have h4 : (blk g (.cells (recCells R (.slice oa N oc)) 35 (0, 0)) * (own 5 1 (.slice oa N oc) N (vbs news) * (blk w.heap.size (.cells (recCells zeroS nilV) 35 (0, 0)) * all w))).on (w2.setCell ⟨g, 6, Option.none⟩ (.slice oa N oc)) := h3; have hg := on_blk_mul h4; have h5 := h4.right; rw [SP.mul_left_comm] at h5; have h0 := on_blk_mul h5; have H5 := hide h5; clear ho hs ho2 h3 h4 h5)
          | (refine wpList_load_row rfl _ _ rfl g rfl _ (recCells R _) _ _ hg hur rfl hsr ?_)
          | (refine wpList_store_row rfl _ _ _ rfl w.heap.size (recCells R _) rfl rfl _ _ h0 hsr (recCells_size _ _ _ _) (recCells_one _ _ _ _) ?_))
        refine bodyPost_ret (v := .agg (recCells R _)) (results_cell_row Try.results111 _ _ w.heap.size _ (recCells R _) (0, 0) _ rfl (setRow_heap_same _ _ _ _ _ _ h0) hur rfl hsr) rfl ⟨_, congrArg (fun r => Ending.returned (.agg (recCells r _))) HR.out.symm, ?_, Hst2.out.setRow _ _⟩
        have h6 := H5.out.setRow (recCells R (.slice oa N oc))
        have h7 := h6.right
        unfold ownR
        rw [HR.out, Hin2.out, hln]
        exact h7
end Go.Proofs.Ytjmgnfpcieofkaa
