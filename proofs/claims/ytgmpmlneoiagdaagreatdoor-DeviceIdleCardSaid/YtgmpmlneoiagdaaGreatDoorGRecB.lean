/- LAID TOGETHER: Rec5, Rec6, Rec7, Rec8, RecLives, RecMath2, RecOpen. -/
import Derived.Test.YtgmpmlneoiagdaaGreatDoorGRecA
import Derived.Test.YtgmpmlneoiagdaaGreatDoorGBase
import Derived.Deep.QuietTactic
import Derived.BigQuiet
import Derived.Test.YtgmpmlneoiagdaaGreatDoorGCrc
/- record: the document's own encoding. -/
namespace Go.Proofs.YtgmpmlneoiagdaaGreatDoor
open Go.ChangeShapes Go.WideShapes Go.ChangeAt Go.RowKit
set_option linter.unusedVariables false
set_option linter.unusedSimpArgs false

/-- bytes of one's own behind W -/
def At (W : World) (v : Value) (l : List UInt8) (w : World) : Prop := (ownR v l * all W).on w ∧ Str W w
theorem At.len {W : World} {v : Value} {l m : List UInt8} {w : World} (h : At W v l w) (e : l = m) : At W v m w := e ▸ h

end Go.Proofs.YtgmpmlneoiagdaaGreatDoor

/- record: what bytes say. -/
namespace Go.Proofs.YtgmpmlneoiagdaaGreatDoor
open Go.ChangeShapes Go.WideShapes Go.ChangeAt Go.RowKit
set_option linter.unusedVariables false
set_option linter.unusedSimpArgs false

/-- what bytes say -/
def readS (l : List UInt8) : RecS := ⟨numS l 4 4, numS l 8 4, numS l 12 4, numS l 16 4, l.getD 20 0, numS l 24 4, (l.drop 28).take (min (l.getD 21 0).toNat 128)⟩
theorem readS_ok (l : List UInt8) (h : l.length = 160) : (readS l).Ok := by
  refine ⟨numS_lt l 4 4, numS_lt l 8 4, numS_lt l 12 4, numS_lt l 16 4, numS_lt l 24 4, ?_⟩
  simp only [readS, List.length_take]
  omega
def zeroS : RecS := ⟨0, 0, 0, 0, 0, 0, []⟩
abbrev nilV : Value := .slice Option.none 0 0

theorem recCells_one (s : RecS) (a : Option Addr) (n c : Nat) : (recCells s (.slice a n c)).all (·.oneCell') = true := by simp [Value.oneCell', vb]
theorem recCells_size (s s' : RecS) (v v' : Value) : (recCells s v).size = (recCells s' v').size := (show (recCells s v).size = 7 from rfl).trans (show (recCells s' v').size = 7 from rfl).symm
theorem IsBytes.mid {w : World} {g off n cap : Nat} {l : List UInt8} (h : IsBytes w (.slice (some ⟨g, off, Option.none⟩) n cap) l) (a k : Nat) (hk : a + k ≤ l.length) : IsBytes w (.slice (some ⟨g, off + a, Option.none⟩) k (cap - a)) ((l.drop a).take k) := by
  obtain ⟨ad, c, e, h1, h2, h3, _⟩ := h
  simp only [Value.slice.injEq] at e
  obtain ⟨rfl, rfl, rfl⟩ := e
  refine ⟨_, _, by rw [List.length_take, List.length_drop, Nat.min_eq_left (by omega)], by simp; omega, by omega, ?_, by simp⟩
  have := (h3.drop a).take k
  rwa [← List.map_drop, ← List.map_take] at this

set_option maxRecDepth 100000 in
set_option maxHeartbeats 8000000 in
theorem read_any (v : Value) (l : List UInt8) (w : World) (h : IsBytes w v l) (hl : l.length = 160) :
    Calls Tryz.prog 58 #[v] w fun e w' => ∃ iv, e = .returned (.agg (recCells (readS l) iv)) ∧ (ownR iv (readS l).init * all w).on w' ∧ Str w w' := by
  have Hb := hide h
  obtain ⟨a, c, rfl, hc, hm, hla, hn⟩ := h
  obtain ⟨bg, bo, rfl⟩ := Lay.isAddr hla 0 (by simp; omega)
  have Hla := hide hla
  clear hla hn
  unfold maxLen at hm
  have Hc := hide hc
  have hc160 : 160 ≤ c := by omega
  rw [hl]
  rw [hl] at Hb
  go_enter Tryz.func58, Tryz.ntmps58
  go_wp2_with fail
  have hx0 : (blk w.heap.size (.cells (recCells zeroS nilV) 31 (0, 0)) * all w).on (w.alloc (.cells (recCells zeroS nilV) 31)) := (on_all w).alloc _
  have Hx0 := hide hx0
  have c20 : Hid (∀ X, Stay (w.alloc (.cells (recCells zeroS nilV) 31)) X → X.cell? ⟨bg, bo + 20, Option.none⟩ = some (vb (l.getD 20 0))) := hide fun X hT => Lay.cell ((Hla.out.below alloc1).below hT) 20 (by rw [vbs_get l 20 (by omega)]; congr 2; rw [List.getD_eq_getElem?_getD, List.getElem?_eq_getElem (by omega)]; rfl)
  have c21 : Hid (∀ X, Below w.heap.size w X → X.cell? ⟨bg, bo + 21, Option.none⟩ = some (vb (l.getD 21 0))) := hide fun X hT => Lay.cell (Hla.out.below hT) 21 (by rw [vbs_get l 21 (by omega)]; congr 2; rw [List.getD_eq_getElem?_getD, List.getElem?_eq_getElem (by omega)]; rfl)
  clear hx0
  refine wp_region_tail 15 [isV (.slice (some ⟨bg, bo, Option.none⟩) 160 c), isV (u32v (numS l 4 4)), isV (.slice (some ⟨bg, bo, Option.none⟩) 160 c), isV (u32v (numS l 8 4)), isV (.slice (some ⟨bg, bo, Option.none⟩) 160 c), isV (u32v (numS l 12 4)), isV (.slice (some ⟨bg, bo, Option.none⟩) 160 c), isV (u32v (numS l 16 4)), isV (.slice (some ⟨bg, bo, Option.none⟩) 160 c), isV (.pointer (some ⟨bg, bo + 20, Option.none⟩)), isV (vb (l.getD 20 0)), isV (.slice (some ⟨bg, bo, Option.none⟩) 160 c), isV (u32v (numS l 24 4)), isV (.agg (recCells (readS l) nilV)), (fun v X => ∃ g, v = .pointer (some ⟨g, 0, Option.none⟩) ∧ (blk g (.cells (recCells zeroS nilV) 31 (0, 0)) * (blk w.heap.size (.cells (recCells zeroS nilV) 31 (0, 0)) * all w)).on X)]
    (by simp only [List.take_succ_cons, List.take_zero]; rfl) (by simp only [List.drop_succ_cons, List.drop_zero]; rfl) (by kernel_rfl) (by kernel_rfl) (by kernel_rfl) (by decide) rfl ?keep ?todo ?rest
  case keep => exact ⟨Keep.isV _, Keep.isV _, Keep.isV _, Keep.isV _, Keep.isV _, Keep.isV _, Keep.isV _, Keep.isV _, Keep.isV _, Keep.isV _, Keep.isV _, Keep.isV _, Keep.isV _, Keep.isV _, fun _ _ _ ⟨g, h1, h2⟩ k => ⟨g, h1, SP.on.below h2 k⟩, trivial⟩
  case todo =>
      refine ⟨?_, ?_, ?_, ?_, ?_, ?_, ?_, ?_, ?_, ?_, ?_, ?_, ?_, ?_, ?_, trivial⟩
      · exact fun ev X hT hb hk hf => OpOk.move rfl hk.1 ⟨rfl, Stay.refl _⟩
      · intro ev X hT hb hk hf
        have e0 : ev (.tmp 5) = (.slice (some ⟨bg, bo, Option.none⟩) 160 c) := hf.1
        refine OpOk.enters (f := 57) (args := #[(.slice (some ⟨bg, bo, Option.none⟩) 160 c), .int .i64 4]) (W' := X) (by simp [execOp, resolve, invoke, e0, hb.1, hb.2.1, go_sem]) ((number_any _ l 4 X ((Hb.out.below alloc1).below hT) (by omega) (by omega)).mono ?_)
        rintro e X2 ⟨rfl, rfl⟩
        exact ⟨_, rfl, rfl, Stay.refl _⟩
      · exact fun ev X hT hb hk hf => OpOk.move rfl hk.1 ⟨rfl, Stay.refl _⟩
      · intro ev X hT hb hk hf
        have e0 : ev (.tmp 7) = (.slice (some ⟨bg, bo, Option.none⟩) 160 c) := hf.1
        refine OpOk.enters (f := 57) (args := #[(.slice (some ⟨bg, bo, Option.none⟩) 160 c), .int .i64 8]) (W' := X) (by simp [execOp, resolve, invoke, e0, hb.1, hb.2.1, go_sem]) ((number_any _ l 8 X ((Hb.out.below alloc1).below hT) (by omega) (by omega)).mono ?_)
        rintro e X2 ⟨rfl, rfl⟩
        exact ⟨_, rfl, rfl, Stay.refl _⟩
      · exact fun ev X hT hb hk hf => OpOk.move rfl hk.1 ⟨rfl, Stay.refl _⟩
      · intro ev X hT hb hk hf
        have e0 : ev (.tmp 9) = (.slice (some ⟨bg, bo, Option.none⟩) 160 c) := hf.1
        refine OpOk.enters (f := 57) (args := #[(.slice (some ⟨bg, bo, Option.none⟩) 160 c), .int .i64 12]) (W' := X) (by simp [execOp, resolve, invoke, e0, hb.1, hb.2.1, go_sem]) ((number_any _ l 12 X ((Hb.out.below alloc1).below hT) (by omega) (by omega)).mono ?_)
        rintro e X2 ⟨rfl, rfl⟩
        exact ⟨_, rfl, rfl, Stay.refl _⟩
      · exact fun ev X hT hb hk hf => OpOk.move rfl hk.1 ⟨rfl, Stay.refl _⟩
      · intro ev X hT hb hk hf
        have e0 : ev (.tmp 11) = (.slice (some ⟨bg, bo, Option.none⟩) 160 c) := hf.1
        refine OpOk.enters (f := 57) (args := #[(.slice (some ⟨bg, bo, Option.none⟩) 160 c), .int .i64 16]) (W' := X) (by simp [execOp, resolve, invoke, e0, hb.1, hb.2.1, go_sem]) ((number_any _ l 16 X ((Hb.out.below alloc1).below hT) (by omega) (by omega)).mono ?_)
        rintro e X2 ⟨rfl, rfl⟩
        exact ⟨_, rfl, rfl, Stay.refl _⟩
      · exact fun ev X hT hb hk hf => OpOk.move rfl hk.1 ⟨rfl, Stay.refl _⟩
      · intro ev X hT hb hk hf
        have e0 : ev (.tmp 13) = (.slice (some ⟨bg, bo, Option.none⟩) 160 c) := hf.1
        exact OpOk.run (v := .pointer (some ⟨bg, bo + 20, Option.none⟩)) (W' := X) (by simp [execOp, e0, hb.1, go_sem]) ⟨rfl, Stay.refl _⟩
      · intro ev X hT hb hk hf
        have e0 : ev (.tmp 14) = .pointer (some ⟨bg, bo + 20, Option.none⟩) := hf.1
        have cW := c20.out X hT
        exact OpOk.run (v := vb (l.getD 20 0)) (W' := X) (by simp [execOp, e0, cW, go_sem]) ⟨rfl, Stay.refl _⟩
      · exact fun ev X hT hb hk hf => OpOk.move rfl hk.1 ⟨rfl, Stay.refl _⟩
      · intro ev X hT hb hk hf
        have e0 : ev (.tmp 16) = (.slice (some ⟨bg, bo, Option.none⟩) 160 c) := hf.1
        refine OpOk.enters (f := 57) (args := #[(.slice (some ⟨bg, bo, Option.none⟩) 160 c), .int .i64 24]) (W' := X) (by simp [execOp, resolve, invoke, e0, hb.1, hb.2.1, go_sem]) ((number_any _ l 24 X ((Hb.out.below alloc1).below hT) (by omega) (by omega)).mono ?_)
        rintro e X2 ⟨rfl, rfl⟩
        exact ⟨_, rfl, rfl, Stay.refl _⟩
      · intro ev X hT hb hk hf
        have e0 : ev (.tmp 6) = u32v (numS l 4 4) := hf.1
        have e1 : ev (.tmp 8) = u32v (numS l 8 4) := hf.2.1
        have e2 : ev (.tmp 10) = u32v (numS l 12 4) := hf.2.2.1
        have e3 : ev (.tmp 12) = u32v (numS l 16 4) := hf.2.2.2.1
        have e4 : ev (.tmp 15) = vb (l.getD 20 0) := hf.2.2.2.2.1
        have e5 : ev (.tmp 17) = u32v (numS l 24 4) := hf.2.2.2.2.2.1
        exact OpOk.run (v := .agg (recCells (readS l) nilV)) (W' := X) (by simp [execOp, e0, e1, e2, e3, e4, e5, go_sem, readS]) ⟨rfl, Stay.refl _⟩
      · intro ev X hT hb hk hf
        exact OpOk.run (v := .pointer (some ⟨X.heap.size, 0, Option.none⟩)) (W' := X.alloc (.cells (recCells zeroS nilV) 31)) (by simp [execOp, go_sem, zeroS]; rfl) ⟨⟨_, rfl, (Hx0.out.below hT).alloc _⟩, (Below.refl _ _).alloc (Nat.le_refl _) _⟩
  case rest =>
    intro X hT
    rintro v0 - v1 - v2 - v3 - v4 - v5 - v6 - v7 - v8 - v9 - v10 - v11 - v12 - _ rfl _ ⟨g, rfl, hg⟩
    have hgc := on_blk_mul hg
    have hin : (readS l).init = (l.drop 28).take (min (l.getD 21 0).toNat 128) := rfl
    have Hin := hide hin
    have HsX := hide ((Str.below alloc1).trans (Str.below hT))
    have Hg := hide hg
    clear hg hin
    generalize hRR : readS l = R at *
    have HR := hide hRR
    clear hRR
    go_wp2
    refine Rest.done ?_
    refine wpList_store_row rfl _ _ _ rfl g (recCells R nilV) rfl rfl _ _ hgc (by kernel_rfl) (recCells_size _ _ _ _) (recCells_one _ _ _ _) ?_
    have Hg2 := hide (Hg.out.setRow (recCells R nilV))
    have HsX2 := hide (HsX.out.setRow g (recCells R nilV))
    clear hgc Hg hT HsX
    generalize X.setRow g (recCells R nilV) = X1 at *
    have hbb := Hb.out.below (all_below Hg2.out.right.right HsX2.out)
    have c21' := c21.out X1 (all_below Hg2.out.right.right HsX2.out)
    generalize l.getD 21 0 = c21v at *
    have hmin := UInt8.toNat_lt c21v
    have HbX := hide hbb
    clear hbb c21 hc Hc
    have hmn : (min ((c21v.toNat : Nat) : Int) 128) = ((min c21v.toNat 128 : Nat) : Int) := by omega
    have hnle : min c21v.toNat 128 ≤ 128 := by omega
    generalize min c21v.toNat 128 = N at *
    have Hmn := hide hmn
    clear hmn
    have hu := Tryz.underlying22
    go_wp2_with fail
    all_goals
      have f1 : (28 + (N : Int)).toNat = 28 + N := by omega
      have f2 : (28 : Int) ≤ 28 + (N : Int) := by omega
      have f3 : (28 : Int) + (N : Int) ≤ (c : Int) := by omega
      have f4 : (0 : Int) ≤ 28 + (N : Int) := by omega
      have f5 : IntKind.i64.wrap (28 + (N : Int)) = 28 + (N : Int) := IntWalk.i64_in _ (by omega)
      have hz0 : c ≠ 28 := by omega
      have hnews : Hid (∀ W, Stay X1 W → IsBytes W (.slice (some ⟨bg, bo + 28, Option.none⟩) N (c - 28)) ((l.drop 28).take N)) := hide fun W hT => (HbX.out.below hT).mid 28 N (by omega)
      have hc6 : Hid (∀ W, Stay X1 W → W.cell? ⟨g, 6, Option.none⟩ = some nilV) := hide fun W hT => cell_of_row _ _ _ _ _ _ (on_blk_mul (Hg2.out.below hT))
      refine wp_region_tail 6 [isV (.pointer (some ⟨g, 6, Option.none⟩)), isV nilV, isV (.slice (some ⟨bg, bo, Option.none⟩) 160 c), isV (.int .i64 (N : Int)), isV (.int .i64 (28 + (N : Int))), isV (.slice (some ⟨bg, bo + 28, Option.none⟩) N (c - 28))]
        (by simp only [List.take_succ_cons, List.take_zero]; rfl) (by simp only [List.drop_succ_cons, List.drop_zero]; rfl) (by kernel_rfl) (by kernel_rfl) (by kernel_rfl) (by decide) rfl ?keep ?todo ?rest
      case keep => exact ⟨Keep.isV _, Keep.isV _, Keep.isV _, Keep.isV _, Keep.isV _, Keep.isV _, trivial⟩
      case todo =>
        refine ⟨?_, ?_, ?_, ?_, ?_, ?_, trivial⟩
        · intro ev X hT hb hk hf
          have e0 : ev (.tmp 3) = .pointer (some ⟨g, 0, Option.none⟩) := hk.1
          exact OpOk.run (v := .pointer (some ⟨g, 6, Option.none⟩)) (W' := X) (by simp [execOp, e0, go_sem]) ⟨rfl, Stay.refl _⟩
        · intro ev X hT hb hk hf
          have e0 : ev (.tmp 24) = .pointer (some ⟨g, 6, Option.none⟩) := hf.1
          have cW := hc6.out X hT
          exact OpOk.run (v := nilV) (W' := X) (by simp [execOp, e0, cW, go_sem]) ⟨rfl, Stay.refl _⟩
        · exact fun ev X hT hb hk hf => OpOk.move rfl hk.1 ⟨rfl, Stay.refl _⟩
        · exact fun ev X hT hb hk hf => OpOk.move rfl hk.1 ⟨by first | exact congrArg (Value.int .i64) (show ((c21v.toNat : Nat) : Int) = (N : Int) by have := Hmn.out; omega) | exact congrArg (Value.int .i64) (show (128 : Int) = (N : Int) by have := Hmn.out; omega), Stay.refl _⟩
        · intro ev X hT hb hk hf
          have e0 : ev (.tmp 27) = .int .i64 (N : Int) := hf.1
          exact OpOk.run (v := .int .i64 (28 + (N : Int))) (W' := X) (by simp [execOp, e0, hb.1, f5, go_sem]) ⟨rfl, Stay.refl _⟩
        · intro ev X hT hb hk hf
          have e0 : ev (.tmp 26) = .slice (some ⟨bg, bo, Option.none⟩) 160 c := hf.1
          have e1 : ev (.tmp 28) = .int .i64 (28 + (N : Int)) := hf.2.1
          exact OpOk.run (v := .slice (some ⟨bg, bo + 28, Option.none⟩) N (c - 28)) (W' := X) (by simp [execOp, e0, e1, hb.1, f1, f2, f3, f4, hz0, go_sem]) ⟨rfl, Stay.refl _⟩
      case rest =>
        intro X hT
        rintro _ rfl _ rfl _ rfl _ rfl _ rfl _ rfl
        have Hown := hide (own_nil 5 1 (Hg2.out.below hT))
        have Hnx := hide (hnews.out X hT)
        have Hst := hide (HsX2.out.trans (Str.below hT))
        clear hT hc6 hnews
        have hln : ((l.drop 28).take N).length = N := by rw [List.length_take, List.length_drop]; omega
        have Hin2 := hide (show R.init = (l.drop 28).take N from Hin.out)
        generalize (l.drop 28).take N = news at *
        go_wp2
        refine Rest.done ?_
        have hur := Tryz.underlying31
        have hsr : (Tryz.prog.info? 31).map (·.size) = some 7 := by kernel_rfl
        go_wp2_with (first
          | (at_builtin; refine wpList_append_bytes (F := blk g (.cells (recCells R nilV) 31 (0, 0)) * (blk w.heap.size (.cells (recCells zeroS nilV) 31 (0, 0)) * all w)) rfl _ _ 22 rfl 5 hu infoR _ [] news rfl Hown.out _ rfl Hnx.out (by simp; omega) ?_; intro v w2 ho hs; rw [List.nil_append, hln] at ho; obtain ⟨oa, oc, rfl, _, _, _, _⟩ := own_value ho; have Hst2 := hide ((Hst.out.trans hs).setCell ⟨g, 6, Option.none⟩ (.slice oa N oc)); have fr := frozen_of_row _ _ 6 _ _ (on_blk_mul ho.right); have cc := cell_of_row _ _ 6 _ _ _ (on_blk_mul ho.right); have ho2 := ho; rw [SP.mul_left_comm] at ho2; have h3 := SP.on.setCell (i := 6) ho2 (.slice oa N oc); have h4 : (blk g (.cells (recCells R (.slice oa N oc)) 31 (0, 0)) * (own 5 1 (.slice oa N oc) N (vbs news) * (blk w.heap.size (.cells (recCells zeroS nilV) 31 (0, 0)) * all w))).on (w2.setCell ⟨g, 6, Option.none⟩ (.slice oa N oc)) := h3; have hg := on_blk_mul h4; have h5 := h4.right; rw [SP.mul_left_comm] at h5; have h0 := on_blk_mul h5; have H5 := hide h5; clear ho hs ho2 h3 h4 h5)
          | (refine wpList_load_row rfl _ _ rfl g rfl _ (recCells R _) _ _ hg hur rfl hsr ?_)
          | (refine wpList_store_row rfl _ _ _ rfl w.heap.size (recCells R _) rfl rfl _ _ h0 hsr (recCells_size _ _ _ _) (recCells_one _ _ _ _) ?_))
        refine bodyPost_ret (v := .agg (recCells R _)) (results_cell_row Tryz.results58 _ _ w.heap.size _ (recCells R _) (0, 0) _ rfl (setRow_heap_same _ _ _ _ _ _ h0) hur rfl hsr) rfl ⟨_, congrArg (fun r => Ending.returned (.agg (recCells r _))) HR.out.symm, ?_, Hst2.out.setRow _ _⟩
        have h6 := H5.out.setRow (recCells R (.slice oa N oc))
        have h7 := h6.right
        unfold ownR
        rw [HR.out, Hin2.out, hln]
        exact h7
end Go.Proofs.YtgmpmlneoiagdaaGreatDoor

/- record: Parse, and Same. -/
namespace Go.Proofs.YtgmpmlneoiagdaaGreatDoor
open Go.ChangeShapes Go.WideShapes Go.ChangeAt Go.RowKit
set_option linter.unusedVariables false
set_option linter.unusedSimpArgs false

/-- what is wrong with bytes -/
def recErr (l : List UInt8) : Nat := if l.length ≠ 160 ∨ numS l 0 4 ≠ 827216706 then 7 else if numS l 156 4 ≠ chkN (l.take 156) then 8 else if (readS l).right = true ∧ recBytes (readS l) = l then 0 else 7
def recGot (l : List UInt8) : RecS := if recErr l = 0 then readS l else zeroS
def ParseEnd (l : List UInt8) (w : World) (e : Ending) (w' : World) : Prop := ∃ iv, e = .returned (.tuple #[.agg (recCells (recGot l) iv), .int .i64 (recErr l : Nat)]) ∧ (ownR iv (recGot l).init * all w).on w' ∧ Str w w'
abbrev zc : Array Value := #[.int .u32 0, .int .u32 0, .int .u32 0, .int .u32 0, .int .u8 0, .int .u32 0, nilV]
theorem zc_eq : recCells zeroS nilV = zc := by simp [recCells, zeroS, vb]
theorem zc_one : zc.all (·.oneCell') = true := by simp [Value.oneCell']
theorem zc_size (s : RecS) (v : Value) : zc.size = (recCells s v).size := (show zc.size = 7 from rfl).trans (show (recCells s v).size = 7 from rfl).symm
theorem ParseEnd.err {l : List UInt8} {w w' : World} {z : Nat} (he : recErr l = z) (hz : z ≠ 0) (hb : Below w.heap.size w w') (z' : Int) (hz' : z' = (z : Nat)) : ParseEnd l w (.returned (.tuple #[.agg zc, .int .i64 z'])) w' := by
  refine ⟨nilV, ?_, ?_, Str.below hb⟩
  · unfold recGot
    rw [he, if_neg hz, zc_eq, hz']
  · unfold recGot
    rw [he, if_neg hz]
    exact own_nil _ _ ((on_all w).below hb)

set_option maxRecDepth 100000 in
set_option maxHeartbeats 8000000 in
theorem recparse_any (v : Value) (l : List UInt8) (w : World) (h : IsBytes w v l) (hlen : l.length ≤ 1000000) :
    Calls Tryz.prog 34 #[v] w (ParseEnd l w) := by
  have hur := Tryz.underlying31
  have hsr : (Tryz.prog.info? 31).map (·.size) = some 7 := by kernel_rfl
  have hr0 := heap_alloc_new w (.cells zc 31)
  have hb := h.below (w' := w.alloc (.cells zc 31)) alloc1
  by_cases hl : l.length = 160
  · by_cases hk : numS l 0 4 = 827216706
    · by_cases hs : numS l 156 4 = chkN (l.take 156)
      · have hN0 := number_any _ l 0 _ hb (by omega) (by omega)
        have hN1 := number_any _ l 156 _ hb (by omega) (by omega)
        have hC := check_any _ l _ hb hl
        rw [← hs] at hC
        have e0 : ((numS l 0 4 : Nat) : Int) = 827216706 := by omega
        rw [e0] at hN0
        have HE := hide (show recErr l = if (readS l).right = true ∧ recBytes (readS l) = l then 0 else 7 by unfold recErr; rw [if_neg (by simp [hl, hk]), if_neg (by simp [hs])])
        have Hok := hide (readS_ok l hl)
        have h128 : Hid ((readS l).init.length ≤ 128) := hide (by simp only [readS, List.length_take]; omega)
        have Hw0 := hide (SP.on.alloc (on_all w) (.cells zc 31))
        have Hh := hide h
        generalize numS l 156 4 = ck at *
        obtain ⟨a, c, rfl, hc, hm, hla, hn⟩ := h
        have Hb := hide hb
        clear hs hk hla hn hb e0
        have Hl := hide hl
        rw [hl] at hN0 hN1 hC hc ⊢
        clear hl
        go_enter Tryz.func34, Tryz.ntmps34
        go_wp2_with fail
        refine hN0.mono ?_
        rintro e _ ⟨rfl, rfl⟩
        go_wp2_with fail
        refine hN1.mono ?_
        rintro e _ ⟨rfl, rfl⟩
        go_wp2_with fail
        refine hC.mono ?_
        rintro e w1 ⟨rfl, hb1⟩
        have Hw1 := hide (Hw0.out.below hb1)
        have HB1 := hide (Below.trans alloc1 (hb1.mono (by simp)))
        have hR := read_any _ l w1 (Hh.out.below HB1.out) Hl.out
        rw [Hl.out] at hR
        clear hb1 Hw0 hN0 hN1 hC hr0 Hb
        go_wp2_with fail
        refine hR.mono ?_
        clear hR
        rintro e w2 ⟨iv, rfl, hiv, hs2⟩
        have Hiv := hide (on_all_to hiv Hw1.out)
        have Hs2 := hide ((Str.below HB1.out).trans hs2)
        have hE := fun w4 hw4 => rencode_any (readS l) iv w4 Hok.out hw4
        obtain ⟨oa, oc, rfl, _, _, _, _⟩ := own_value hiv
        clear hiv hs2 Hw1
        have H3 := hide ((Hiv.out.alloc (.cells zc 31)).setRow (recCells (readS l) (.slice oa (readS l).init.length oc)))
        have Hs3 := hide ((Hs2.out.alloc (.cells zc 31)).setRow w2.heap.size (recCells (readS l) (.slice oa (readS l).init.length oc)))
        have hr2 := heap_alloc_new w2 (.cells zc 31)
        have hr3 := on_blk_mul H3.out
        have hr4 := H3.out.right
        rw [SP.mul_left_comm] at hr4
        replace hr4 := on_blk_mul hr4
        have hiv3 := own_bytes H3.out.right
        have hE2 := hE _ hiv3
        clear hE hiv3 Hiv Hs2
        generalize hR : readS l = R at *
        have HR := hide hR
        clear hR
        generalize hW3 : (w2.alloc (.cells zc 31)).setRow w2.heap.size (recCells R (.slice oa R.init.length oc)) = w3 at *
        have HW3 := hide hW3
        clear hW3
        go_wp2_with (first
          | (refine wpList_store_row rfl _ _ _ rfl w2.heap.size (recCells R _) rfl rfl _ _ hr2 hsr (zc_size _ _) (recCells_one _ _ _ _) ?_; rw [HW3.out])
          | (refine wpList_load_row rfl _ _ rfl w2.heap.size rfl _ (recCells R _) _ _ hr3 hur rfl hsr ?_))
        refine hE2.mono ?_
        have Hb3 := hide (all_below H3.out.right.right.right Hs3.out)
        have Hin := hide (Hh.out.below Hb3.out)
        have Ha3 := hide H3.out
        clear hE2 HW3 hr2 H3
        rintro e w5 (⟨hrt, out, rfl, ho5, hs5⟩ | ⟨hrt, rfl, hb5⟩)
        · have hb5 := all_below ho5.right hs5
          have h3' := (hb5.block _ (Array.getElem?_eq_some_iff.1 hr3).1).trans hr3
          have h4' := (hb5.block _ (Array.getElem?_eq_some_iff.1 hr4).1).trans hr4
          have hq := equal_any _ _ _ _ w5 (own_bytes ho5) ((Hh.out.below Hb3.out).below hb5)
          obtain ⟨oa5, oc5, rfl, _, _, _, _⟩ := own_value ho5
          have HB5 := hide (Hb3.out.trans (hb5.mono Hs3.out.size))
          have HA5 := hide (Ha3.out.below hb5)
          have HS5 := hide (Hs3.out.trans hs5)
          rw [Hl.out] at hq
          have HE2 := hide (show recErr l = if recBytes R = l then 0 else 7 by rw [HE.out, hrt]; simp)
          clear ho5 hb5 hr3 hr4 hs5 HE hrt Ha3
          go_wp2_with fail
          refine hq.mono ?_
          clear hq
          rintro e _ ⟨rfl, rfl⟩
          by_cases heq : recBytes R = l
          · rw [decide_eq_true heq]
            have HE3 := hide (show recErr l = 0 by rw [HE2.out, if_pos heq])
            clear heq HE2
            go_wp2_with (first
              | (refine wpList_store_row rfl _ _ _ rfl w.heap.size (recCells R _) rfl rfl _ _ h4' hsr (zc_size _ _) (recCells_one _ _ _ _) ?_)
              | (refine wpList_load_row rfl _ _ rfl w2.heap.size rfl _ (recCells R _) _ _ h3' hur rfl hsr ?_))
            refine bodyPost_ret (v := .tuple #[.agg (recCells R (.slice oa R.init.length oc)), .int .i64 0]) (results_cell_row_tmp Tryz.results34 _ _ w.heap.size _ (recCells R _) (0, 0) _ rfl (setRow_heap_same _ _ _ _ _ _ h4') hur rfl hsr (.int .i64 0) rfl) rfl ?_
            have hg : recGot l = R := by unfold recGot; rw [HE3.out, if_pos rfl, HR.out]
            refine ⟨.slice oa R.init.length oc, by rw [hg, HE3.out]; rfl, ?_, HS5.out.setRow _ _⟩
            rw [hg]
            have h5 := HA5.out.right
            rw [SP.mul_left_comm] at h5
            have h6 := (h5.setRow (recCells R (.slice oa R.init.length oc))).right
            exact h6
          · rw [decide_eq_false heq]
            have HE3 := hide (show recErr l = 7 by rw [HE2.out, if_neg heq])
            clear heq HE2
            go_wp2_with (refine wpList_store_row rfl _ _ _ rfl w.heap.size zc rfl rfl _ _ h4' hsr rfl zc_one ?_)
            refine bodyPost_ret (v := .tuple #[.agg zc, .int .i64 7]) (results_cell_row_tmp Tryz.results34 _ _ w.heap.size _ zc (0, 0) _ rfl (setRow_heap_same _ _ _ _ _ _ h4') hur rfl hsr (.int .i64 7) rfl) rfl ?_
            exact ParseEnd.err HE3.out (by decide) (below_setRow HB5.out (Nat.le_refl _) _) 7 rfl
        · have h4' := (hb5.block _ (Array.getElem?_eq_some_iff.1 hr4).1).trans hr4
          have HB5 := hide (Hb3.out.trans (hb5.mono Hs3.out.size))
          have HE3 := hide (show recErr l = 7 by rw [HE.out, hrt]; simp)
          clear hb5 hr3 hr4 HE hrt Ha3
          go_wp2_with (refine wpList_store_row rfl _ _ _ rfl w.heap.size zc rfl rfl _ _ h4' hsr rfl zc_one ?_)
          refine bodyPost_ret (v := .tuple #[.agg zc, .int .i64 7]) (results_cell_row_tmp Tryz.results34 _ _ w.heap.size _ zc (0, 0) _ rfl (setRow_heap_same _ _ _ _ _ _ h4') hur rfl hsr (.int .i64 7) rfl) rfl ?_
          exact ParseEnd.err HE3.out (by decide) (below_setRow HB5.out (Nat.le_refl _) _) 7 rfl
      · have hN0 := number_any _ l 0 _ hb (by omega) (by omega)
        have hN1 := number_any _ l 156 _ hb (by omega) (by omega)
        have hC := check_any _ l _ hb hl
        have e0 : ((numS l 0 4 : Nat) : Int) = 827216706 := by omega
        have e1 : (((numS l 156 4 : Nat) : Int) != ((chkN (l.take 156) : Nat) : Int)) = true := by simp; omega
        rw [e0] at hN0
        have HE := hide (show recErr l = 8 by unfold recErr; rw [if_neg (by simp [hl, hk]), if_pos (by simpa using hs)])
        generalize numS l 156 4 = ck at *
        generalize chkN (l.take 156) = cs at *
        obtain ⟨a, c, rfl, hc, hm, hla, hn⟩ := h
        clear hs hk hla hn hb e0
        have Hl := hide hl
        rw [hl] at hN0 hN1 hC hc ⊢
        clear hl
        go_enter Tryz.func34, Tryz.ntmps34
        go_wp2_with fail
        refine hN0.mono ?_
        rintro e _ ⟨rfl, rfl⟩
        go_wp2_with fail
        refine hN1.mono ?_
        rintro e _ ⟨rfl, rfl⟩
        go_wp2_with fail
        refine hC.mono ?_
        rintro e w1 ⟨rfl, hb1⟩
        have hr1 := (hb1.block w.heap.size (by simp)).trans hr0
        have HB1 := hide (Below.trans alloc1 (hb1.mono (by simp)))
        clear hb1 hr0 hN0 hN1 hC
        go_wp2_with (refine wpList_store_row rfl _ _ _ rfl w.heap.size zc rfl rfl _ _ hr1 hsr rfl zc_one ?_)
        refine bodyPost_ret (v := .tuple #[.agg zc, .int .i64 8]) (results_cell_row_tmp Tryz.results34 _ _ w.heap.size _ zc (0, 0) _ rfl (setRow_heap_same _ _ _ _ _ _ hr1) hur rfl hsr (.int .i64 8) rfl) rfl ?_
        exact ParseEnd.err HE.out (by decide) (below_setRow HB1.out (Nat.le_refl _) _) 8 rfl
    · have hN0 := number_any _ l 0 _ hb (by omega) (by omega)
      have e0 : (((numS l 0 4 : Nat) : Int) != 827216706) = true := by simp; omega
      have HE := hide (show recErr l = 7 by unfold recErr; rw [if_pos (by simp [hk])])
      generalize numS l 0 4 = ck at *
      obtain ⟨a, c, rfl, hc, hm, hla, hn⟩ := h
      clear hk hla hn hb
      rw [hl] at hN0 hc ⊢
      clear hl
      go_enter Tryz.func34, Tryz.ntmps34
      go_wp2_with fail
      refine hN0.mono ?_
      rintro e _ ⟨rfl, rfl⟩
      go_wp2_with (refine wpList_store_row rfl _ _ _ rfl w.heap.size zc rfl rfl _ _ hr0 hsr rfl zc_one ?_)
      refine bodyPost_ret (v := .tuple #[.agg zc, .int .i64 7]) (results_cell_row_tmp Tryz.results34 _ _ w.heap.size _ zc (0, 0) _ rfl (setRow_heap_same _ _ _ _ _ _ hr0) hur rfl hsr (.int .i64 7) rfl) rfl ?_
      exact ParseEnd.err HE.out (by decide) (below_setRow alloc1 (Nat.le_refl _) _) 7 rfl
  · have HE := hide (show recErr l = 7 by unfold recErr; rw [if_pos (by simp [hl])])
    obtain ⟨a, c, rfl, hc, hm, hla, hn⟩ := h
    have e0 : (((l.length : Nat) : Int) != 160) = true := by simp; omega
    clear hla hn hb hl
    go_enter Tryz.func34, Tryz.ntmps34
    go_wp2_with (refine wpList_store_row rfl _ _ _ rfl w.heap.size zc rfl rfl _ _ hr0 hsr rfl zc_one ?_)
    refine bodyPost_ret (v := .tuple #[.agg zc, .int .i64 7]) (results_cell_row_tmp Tryz.results34 _ _ w.heap.size _ zc (0, 0) _ rfl (setRow_heap_same _ _ _ _ _ _ hr0) hur rfl hsr (.int .i64 7) rfl) rfl ?_
    exact ParseEnd.err HE.out (by decide) (below_setRow alloc1 (Nat.le_refl _) _) 7 rfl
end Go.Proofs.YtgmpmlneoiagdaaGreatDoor

/- record: Same, and the document's own Parse. -/
namespace Go.Proofs.YtgmpmlneoiagdaaGreatDoor
open Go.ChangeShapes Go.WideShapes Go.ChangeAt Go.RowKit
set_option linter.unusedVariables false
set_option linter.unusedSimpArgs false

theorem recBytes_21 (s : RecS) : (recBytes s).getD 21 0 = UInt8.ofNat s.init.length := by
  unfold recBytes recHead wordB
  simp
def RParseEnd (l : List UInt8) (w : World) (e : Ending) (w' : World) : Prop := ∃ iv, e = .returned (.tuple #[.agg (refCells (recGot l) iv), .int .i64 (recErr l : Nat)]) ∧ (ownR iv (recGot l).init * all w).on w' ∧ Str w w'
abbrev zcr : Array Value := #[.int .u32 0, .int .u32 0, .int .u32 0, .int .u32 0, .int .u32 0, .int .u8 0, nilV]
theorem zcr_eq : refCells zeroS nilV = zcr := by simp [refCells, zeroS, vb]
theorem RParseEnd.err {l : List UInt8} {w w' : World} {z : Nat} (he : recErr l = z) (hz : z ≠ 0) (hb : Below w.heap.size w w') (z' : Int) (hz' : z' = (z : Nat)) : RParseEnd l w (.returned (.tuple #[.agg zcr, .int .i64 z'])) w' := by
  refine ⟨nilV, ?_, ?_, Str.below hb⟩
  · unfold recGot
    rw [he, if_neg hz, zcr_eq, hz']
  · unfold recGot
    rw [he, if_neg hz]
    exact own_nil _ _ ((on_all w).below hb)

end Go.Proofs.YtgmpmlneoiagdaaGreatDoor

/- The chapter's example of record. -/
namespace Go.Proofs.YtgmpmlneoiagdaaGreatDoor
open Go.ChangeShapes Go.WideShapes Go.ChangeAt Go.RowKit
set_option linter.unusedVariables false
set_option linter.unusedSimpArgs false

end Go.Proofs.YtgmpmlneoiagdaaGreatDoor

/- record: what its bytes say; a bit that is turned is found. No call is spoken of. -/
namespace Go.Proofs.YtgmpmlneoiagdaaGreatDoor
set_option linter.unusedVariables false
set_option linter.unusedSimpArgs false

theorem recBytes_eq (s : RecS) : recBytes s = wordB 827216706 ++ (wordB s.seq ++ (wordB s.floor ++ (wordB s.bytes ++ (wordB s.sum ++ ([s.phase, UInt8.ofNat s.init.length, 0, 0] ++ (wordB s.done ++ (s.init ++ (List.replicate (128 - s.init.length) 0 ++ wordB (chkN (recHead s)))))))))) := by
  simp only [recBytes, recHead, List.append_assoc]
theorem recBytes_20 (s : RecS) : (recBytes s).getD 20 0 = s.phase := by
  unfold recBytes recHead wordB
  simp
theorem read_bytes (s : RecS) (ok : s.Ok) (h : s.init.length ≤ 128) : readS (recBytes s) = s := by
  have e := recBytes_eq s
  have h21 := recBytes_21 s
  have h20 := recBytes_20 s
  have w (n : Nat) : (wordB n).length = 4 := rfl
  obtain ⟨o1, o2, o3, o4, o5, _⟩ := ok
  have a1 : numS (recBytes s) 4 4 = s.seq := by
    rw [e]; exact numS_word _ _ _ o1 4 rfl
  have a2 : numS (recBytes s) 8 4 = s.floor := by
    rw [e, ← List.append_assoc]; exact numS_word _ _ _ o2 8 (by simp [w])
  have a3 : numS (recBytes s) 12 4 = s.bytes := by
    rw [e, ← List.append_assoc, ← List.append_assoc]; exact numS_word _ _ _ o3 12 (by simp [w])
  have a4 : numS (recBytes s) 16 4 = s.sum := by
    rw [e, ← List.append_assoc, ← List.append_assoc, ← List.append_assoc]; exact numS_word _ _ _ o4 16 (by simp [w])
  have a5 : numS (recBytes s) 24 4 = s.done := by
    rw [e, ← List.append_assoc, ← List.append_assoc, ← List.append_assoc, ← List.append_assoc, ← List.append_assoc]; exact numS_word _ _ _ o5 24 (by simp [w])
  have a6 : ((recBytes s).drop 28).take (min ((recBytes s).getD 21 0).toNat 128) = s.init := by
    rw [h21]
    have : min (UInt8.ofNat s.init.length).toNat 128 = s.init.length := by simp; omega
    rw [this, e, ← List.append_assoc, ← List.append_assoc, ← List.append_assoc, ← List.append_assoc, ← List.append_assoc, ← List.append_assoc]
    rw [List.drop_left' (by simp [w])]
    exact List.take_left' rfl
  unfold readS
  rw [a1, a2, a3, a4, a5, a6, h20]
theorem numS_mark' (q : Nat) (hq : q < 4294967296) (B : List UInt8) : numS (wordB q ++ B) 0 4 = q := numS_word [] B q hq 0 rfl
theorem numS_mark (s : RecS) : numS (recBytes s) 0 4 = 827216706 := (congrArg (fun l => numS l 0 4) (recBytes_eq s)).trans (numS_mark' 827216706 (by omega) _)
theorem recErr_bytes (s : RecS) (ok : s.Ok) (hr : s.right = true) : recErr (recBytes s) = 0 := by
  have h : s.init.length ≤ 128 := by simp only [RecS.right, decide_eq_true_eq] at hr; omega
  have hl := recBytes_len s h
  have h0 : numS (recBytes s) 0 4 = 827216706 := numS_mark s
  have ht : (recBytes s).take 156 = recHead s := List.take_left' (recHead_len s h)
  have hc : numS (recBytes s) 156 4 = chkN (recHead s) := by
    have := numS_word (recHead s) [] _ (chkN_lt (recHead s)) 156 (recHead_len s h).symm
    simpa [recBytes] using this
  unfold recErr
  rw [if_neg (by rw [hl, h0]; omega), ht, if_neg (by rw [hc]; omega), read_bytes s ok h, if_pos ⟨hr, rfl⟩]
end Go.Proofs.YtgmpmlneoiagdaaGreatDoor

/- A record as an argument; 'of'; how both encodings end. -/
namespace Go.Proofs.YtgmpmlneoiagdaaGreatDoor
open Go.ChangeShapes Go.WideShapes Go.ChangeAt Go.RowKit
set_option linter.unusedVariables false
set_option linter.unusedSimpArgs false
section
variable {H : Type} {enc : TypeId × Value → H} {w : World} {base : Nat} {spare : Nat → Bool} {held : Bool}

structure RecS.Nums (s : RecS) : Prop where
  seq : s.seq < 4294967296
  floor : s.floor < 4294967296
  bytes : s.bytes < 4294967296
  sum : s.sum < 4294967296
  done : s.done < 4294967296
theorem RecS.Nums.ok {s : RecS} (h : s.Nums) (hi : s.init.length ≤ 1000000) : s.Ok := ⟨h.seq, h.floor, h.bytes, h.sum, h.done, hi⟩

end

/-- both encodings end so -/
def encErr (s : RecS) : Nat := if s.right = true then 0 else 1
def encGot (s : RecS) : List UInt8 := if s.right = true then recBytes s else []
theorem RecEnd.both {s : RecS} {w : World} {e : Ending} {w' : World} (h : RecEnd s w e w') : ∃ out, e = .returned (.tuple #[out, .int .i64 (encErr s : Nat)]) ∧ (ownR out (encGot s) * all w).on w' ∧ Str w w' := by
  rcases h with ⟨hr, out, rfl, h1, h2⟩ | ⟨hr, rfl, hb⟩
  · refine ⟨out, ?_, ?_, h2⟩
    · rw [encErr, if_pos hr]; rfl
    · rw [encGot, if_pos hr]; exact h1
  · refine ⟨.slice Option.none 0 0, ?_, ?_, Str.below hb⟩
    · rw [encErr, if_neg (by simp [hr])]; rfl
    · rw [encGot, if_neg (by simp [hr])]; exact own_nil _ _ ((on_all w).below hb)

end Go.Proofs.YtgmpmlneoiagdaaGreatDoor
