/- record: Same, and the document's own Parse. -/
import Derived.Test.YtjmgnfpcieofkaaRec7
import Derived.Deep.QuietTactic
import Derived.BigQuiet
namespace Go.Proofs.Ytjmgnfpcieofkaa
open Go.ChangeShapes Go.WideShapes Go.ChangeAt Go.RowKit
set_option linter.unusedVariables false
set_option linter.unusedSimpArgs false

set_option maxRecDepth 100000 in
set_option maxHeartbeats 4000000 in
theorem recsame_any (s : RecS) (v1 v2 : Value) (w : World) (h1 : IsBytes w v1 s.init) (h2 : IsBytes w v2 s.init) :
    Calls Try.prog 19 #[.agg (recCells s v1), .agg (recCells s v2)] w fun e w' => e = .returned (.bool true) ∧ Below w.heap.size w w' := by
  have hb2 : Below w.heap.size w ((w.alloc (.cells (recCells s v1) 35)).alloc (.cells (recCells s v2) 35)) := alloc1.alloc (by simp) _
  have hq := equal_any _ _ _ _ ((w.alloc (.cells (recCells s v1) 35)).alloc (.cells (recCells s v2) 35)) (h1.below hb2) (h2.below hb2)
  rw [decide_eq_true rfl] at hq
  obtain ⟨a1, c1, rfl, _, _, _, _⟩ := h1
  obtain ⟨a2, c2, rfl, _, _, _, _⟩ := h2
  have Hb2 := hide hb2
  clear hb2
  generalize s.init.length = n1 at *
  obtain ⟨seq, floor, bytes, sum, phase, done, init⟩ := s
  simp only at *
  generalize phase.toNat = ph at *
  go_enter Try.func19, Try.ntmps19
  go_wp2_with fail
  refine hq.mono ?_
  rintro e _ ⟨rfl, rfl⟩
  go_wp2_with fail
  go_ret
  exact ⟨rfl, Hb2.out⟩

theorem recBytes_21 (s : RecS) : (recBytes s).getD 21 0 = UInt8.ofNat s.init.length := by
  unfold recBytes recHead wordB
  simp
theorem numS_sub (l : List UInt8) (a : Nat) (h : a + 4 ≤ l.length) : numS ((l.drop a).take 4) 0 4 = numS l a 4 := by
  have g : ∀ j, j < 4 → ((l.drop a).take 4).getD j 0 = l.getD (a + j) 0 := by
    intro j hj
    rw [List.getD_eq_getElem?_getD, List.getD_eq_getElem?_getD, List.getElem?_take, if_pos hj, List.getElem?_drop]
  simp only [numS, Nat.zero_add]
  rw [g 0 (by omega), g 1 (by omega), g 2 (by omega), g 3 (by omega)]
theorem recErr_long {l : List UInt8} (hl : l.length = 160) (hk : numS l 0 4 = 827216706) (hs : numS l 156 4 = chkN (l.take 156)) (h : 128 < (l.getD 21 0).toNat) : recErr l = 7 := by
  unfold recErr
  rw [if_neg (by simp [hl, hk]), if_neg (by simp [hs]), if_neg]
  rintro ⟨_, he⟩
  have h1 := recBytes_21 (readS l)
  rw [he] at h1
  have h2 : (readS l).init.length ≤ 128 := by simp only [readS, List.length_take]; omega
  rw [h1] at h
  simp at h
  omega

def RParseEnd (l : List UInt8) (w : World) (e : Ending) (w' : World) : Prop := ∃ iv, e = .returned (.tuple #[.agg (refCells (recGot l) iv), .int .i64 (recErr l : Nat)]) ∧ (ownR iv (recGot l).init * all w).on w' ∧ Str w w'
abbrev zcr : Array Value := #[.int .u32 0, .int .u32 0, .int .u32 0, .int .u32 0, .int .u32 0, .int .u8 0, nilV]
theorem zcr_eq : refCells zeroS nilV = zcr := by simp [refCells, zeroS, vb]
theorem zcr_one : zcr.all (·.oneCell') = true := by simp [Value.oneCell']
theorem zcr_size (s : RecS) (v : Value) : zcr.size = (refCells s v).size := (show zcr.size = 7 from rfl).trans (show (refCells s v).size = 7 from rfl).symm
theorem RParseEnd.err {l : List UInt8} {w w' : World} {z : Nat} (he : recErr l = z) (hz : z ≠ 0) (hb : Below w.heap.size w w') (z' : Int) (hz' : z' = (z : Nat)) : RParseEnd l w (.returned (.tuple #[.agg zcr, .int .i64 z'])) w' := by
  refine ⟨nilV, ?_, ?_, Str.below hb⟩
  · unfold recGot
    rw [he, if_neg hz, zcr_eq, hz']
  · unfold recGot
    rw [he, if_neg hz]
    exact own_nil _ _ ((on_all w).below hb)

set_option maxRecDepth 100000 in
set_option maxHeartbeats 8000000 in
theorem rrecparse_any (v : Value) (l : List UInt8) (w : World) (h : IsBytes w v l) (hlen : l.length ≤ 1000000) :
    Calls Try.prog 62 #[v] w (RParseEnd l w) := by
  have hur := Try.underlying60
  have hsr : (Try.prog.info? 60).map (·.size) = some 7 := by kernel_rfl
  have hr0 := heap_alloc_new w (.cells zcr 60)
  have hb := h.below (w' := w.alloc (.cells zcr 60)) alloc1
  by_cases hl : l.length = 160
  · obtain ⟨a, c, rfl, hc, hm, hla, hn⟩ := h
    obtain ⟨bg, bo, rfl⟩ := Lay.isAddr hla 0 (by simp; omega)
    unfold maxLen at hm
    rw [hl] at hb hc ⊢
    have z4 : c ≠ 4 := by omega
    have z8 : c ≠ 8 := by omega
    have z12 : c ≠ 12 := by omega
    have z16 : c ≠ 16 := by omega
    have z24 : c ≠ 24 := by omega
    have z156 : c ≠ 156 := by omega
    have hN0 : ∀ W, IsBytes W (.slice (some ⟨bg, bo, Option.none⟩) 160 c) l → Calls Try.prog 95 #[.slice (some ⟨bg, bo, Option.none⟩) 4 c] W fun e w' => e = .returned (u32v (numS l 0 4)) ∧ W = w' := fun W hW => by
      have h1 := hW.mid 0 4 (by omega)
      have h2 := rnumber_any _ _ W h1 (by simp; omega)
      rw [numS_sub l 0 (by omega)] at h2
      simpa using h2
    have hNs : ∀ (k : Nat) W, k + 4 ≤ 160 → IsBytes W (.slice (some ⟨bg, bo, Option.none⟩) 160 c) l → Calls Try.prog 95 #[.slice (some ⟨bg, bo + k, Option.none⟩) 4 (c - k)] W fun e w' => e = .returned (u32v (numS l k 4)) ∧ W = w' := fun k W hk hW => by
      have h1 := hW.mid k 4 (by omega)
      have h2 := rnumber_any _ _ W h1 (by simp; omega)
      rw [numS_sub l k (by omega)] at h2
      exact h2
    have hCs : ∀ W, IsBytes W (.slice (some ⟨bg, bo, Option.none⟩) 160 c) l → Calls Try.prog 96 #[.slice (some ⟨bg, bo, Option.none⟩) 156 c] W fun e w' => e = .returned (u32v (chkN (l.take 156))) ∧ W = w' := fun W hW => by
      have h1 := hW.mid 0 156 (by omega)
      have h2 := rchk_any _ _ W h1
      simpa using h2
    have h0 := hN0 _ hb
    have HN := hide hNs
    have HC := hide hCs
    have Hb := hide hb
    have Hla := hide hla
    clear hN0 hNs hCs hla hn hb
    by_cases hk : numS l 0 4 = 827216706
    · rw [hk] at h0
      by_cases hs : numS l 156 4 = chkN (l.take 156)
      · have HE := hide (show recErr l = if (readS l).right = true ∧ recBytes (readS l) = l then 0 else 7 by unfold recErr; rw [if_neg (by simp [hl, hk]), if_neg (by simp [hs])])
        have HL := hide (recErr_long hl hk hs)
        have Hok := hide (readS_ok l hl)
        have Hw0 := hide (SP.on.alloc (on_all w) (.cells zcr 60))
        have HN1 := hide fun n => HN.out 156 ((w.alloc (.cells zcr 60)).drewN n) (by omega) (Hb.out.below (Below.drewN' (Below.refl _ _) n))
        have HC1 := hide fun n => HC.out ((w.alloc (.cells zcr 60)).drewN n) (Hb.out.below (Below.drewN' (Below.refl _ _) n))
        rw [← hs] at HC1
        have Hl := hide hl
        generalize numS l 156 4 = ck at *
        clear hk hs hl
        go_enter Try.func62, Try.ntmps62
        go_wp2_with fail
        refine h0.mono ?_
        rintro e _ ⟨rfl, rfl⟩
        go_wp2_with fail
        go_quiet (first
          | (go_at_call 95; exact Calls.quiet_of_same ((HN1.out _).mono fun _ _ ⟨h1, h2⟩ => ⟨h1, h2.symm⟩))
          | (go_at_call 96; exact Calls.quiet_of_same ((HC1.out _).mono fun _ _ ⟨h1, h2⟩ => ⟨h1, h2.symm⟩)))
        go_wp2_with fail
        have HwX := hide (Hw0.out.drewN nq)
        have HbX := hide (Hb.out.below (Below.drewN' (Below.refl _ _) nq))
        have HsX := hide ((Str.below (alloc1 (w := w) (o := .cells zcr 60))).drewN nq)
        clear Hw0 HN1 HC1 hr0 h0 Hb
        generalize (w.alloc (.cells zcr 60)).drewN nq = X0 at *
        have c20 : Hid (∀ X, Stay X0 X → X.cell? ⟨bg, bo + 20, Option.none⟩ = some (vb (l.getD 20 0))) := hide fun X hT => Lay.cell ((Hla.out.below (all_below HwX.out.right HsX.out)).below hT) 20 (by rw [vbs_get l 20 (by have := Hl.out; omega)]; congr 2; rw [List.getD_eq_getElem?_getD, List.getElem?_eq_getElem (by have := Hl.out; omega)]; rfl)
        have c21 : Hid (∀ X, Below w.heap.size w X → X.cell? ⟨bg, bo + 21, Option.none⟩ = some (vb (l.getD 21 0))) := hide fun X hT => Lay.cell (Hla.out.below hT) 21 (by rw [vbs_get l 21 (by have := Hl.out; omega)]; congr 2; rw [List.getD_eq_getElem?_getD, List.getElem?_eq_getElem (by have := Hl.out; omega)]; rfl)
        have y4 : (8 : Int) ≤ (c : Int) := by omega
        have y8 : (12 : Int) ≤ (c : Int) := by omega
        have y12 : (16 : Int) ≤ (c : Int) := by omega
        have y16 : (20 : Int) ≤ (c : Int) := by omega
        have y24 : (28 : Int) ≤ (c : Int) := by omega
        refine wp_region_tail 20 [isV (.slice (some ⟨bg, bo, Option.none⟩) 160 c), isV (.slice (some ⟨bg, bo + 4, Option.none⟩) 4 (c - 4)), isV (u32v (numS l 4 4)), isV (.slice (some ⟨bg, bo, Option.none⟩) 160 c), isV (.slice (some ⟨bg, bo + 8, Option.none⟩) 4 (c - 8)), isV (u32v (numS l 8 4)), isV (.slice (some ⟨bg, bo, Option.none⟩) 160 c), isV (.slice (some ⟨bg, bo + 12, Option.none⟩) 4 (c - 12)), isV (u32v (numS l 12 4)), isV (.slice (some ⟨bg, bo, Option.none⟩) 160 c), isV (.slice (some ⟨bg, bo + 16, Option.none⟩) 4 (c - 16)), isV (u32v (numS l 16 4)), isV (.slice (some ⟨bg, bo, Option.none⟩) 160 c), isV (.pointer (some ⟨bg, bo + 20, Option.none⟩)), isV (vb (l.getD 20 0)), isV (.slice (some ⟨bg, bo, Option.none⟩) 160 c), isV (.slice (some ⟨bg, bo + 24, Option.none⟩) 4 (c - 24)), isV (u32v (numS l 24 4)), isV (.agg (refCells (readS l) nilV)), (fun v X => ∃ g, v = .pointer (some ⟨g, 0, Option.none⟩) ∧ (blk g (.cells zcr 60 (0, 0)) * (blk w.heap.size (.cells zcr 60 (0, 0)) * all w)).on X)]
          (by simp only [List.take_succ_cons, List.take_zero]; rfl) (by simp only [List.drop_succ_cons, List.drop_zero]; rfl) (by kernel_rfl) (by kernel_rfl) (by kernel_rfl) (by decide) rfl ?keep ?todo ?rest
        case keep => exact ⟨Keep.isV _, Keep.isV _, Keep.isV _, Keep.isV _, Keep.isV _, Keep.isV _, Keep.isV _, Keep.isV _, Keep.isV _, Keep.isV _, Keep.isV _, Keep.isV _, Keep.isV _, Keep.isV _, Keep.isV _, Keep.isV _, Keep.isV _, Keep.isV _, Keep.isV _, fun _ _ _ ⟨g, h1, h2⟩ k => ⟨g, h1, SP.on.below h2 k⟩, trivial⟩
        case todo =>
          refine ⟨?_, ?_, ?_, ?_, ?_, ?_, ?_, ?_, ?_, ?_, ?_, ?_, ?_, ?_, ?_, ?_, ?_, ?_, ?_, ?_, trivial⟩
          · exact fun ev X hT hb hk hf => OpOk.move rfl hk.1 ⟨rfl, Stay.refl _⟩
          · intro ev X hT hb hk hf
            have e0 : ev (.tmp 27) = .slice (some ⟨bg, bo, Option.none⟩) 160 c := hf.1
            exact OpOk.run (v := .slice (some ⟨bg, bo + 4, Option.none⟩) 4 (c - 4)) (W' := X) (by simp [execOp, e0, hb.1, y4, z4, go_sem]) ⟨rfl, Stay.refl _⟩
          · intro ev X hT hb hk hf
            have e0 : ev (.tmp 28) = .slice (some ⟨bg, bo + 4, Option.none⟩) 4 (c - 4) := hf.1
            refine OpOk.enters (f := 95) (args := #[.slice (some ⟨bg, bo + 4, Option.none⟩) 4 (c - 4)]) (W' := X) (by simp [execOp, resolve, invoke, e0, hb.1, hb.2.1, go_sem]) ((HN.out 4 X (by omega) (HbX.out.below hT)).mono ?_)
            rintro e X2 ⟨rfl, rfl⟩
            exact ⟨_, rfl, rfl, Stay.refl _⟩
          · exact fun ev X hT hb hk hf => OpOk.move rfl hk.1 ⟨rfl, Stay.refl _⟩
          · intro ev X hT hb hk hf
            have e0 : ev (.tmp 30) = .slice (some ⟨bg, bo, Option.none⟩) 160 c := hf.1
            exact OpOk.run (v := .slice (some ⟨bg, bo + 8, Option.none⟩) 4 (c - 8)) (W' := X) (by simp [execOp, e0, hb.1, y8, z8, go_sem]) ⟨rfl, Stay.refl _⟩
          · intro ev X hT hb hk hf
            have e0 : ev (.tmp 31) = .slice (some ⟨bg, bo + 8, Option.none⟩) 4 (c - 8) := hf.1
            refine OpOk.enters (f := 95) (args := #[.slice (some ⟨bg, bo + 8, Option.none⟩) 4 (c - 8)]) (W' := X) (by simp [execOp, resolve, invoke, e0, hb.1, hb.2.1, go_sem]) ((HN.out 8 X (by omega) (HbX.out.below hT)).mono ?_)
            rintro e X2 ⟨rfl, rfl⟩
            exact ⟨_, rfl, rfl, Stay.refl _⟩
          · exact fun ev X hT hb hk hf => OpOk.move rfl hk.1 ⟨rfl, Stay.refl _⟩
          · intro ev X hT hb hk hf
            have e0 : ev (.tmp 33) = .slice (some ⟨bg, bo, Option.none⟩) 160 c := hf.1
            exact OpOk.run (v := .slice (some ⟨bg, bo + 12, Option.none⟩) 4 (c - 12)) (W' := X) (by simp [execOp, e0, hb.1, y12, z12, go_sem]) ⟨rfl, Stay.refl _⟩
          · intro ev X hT hb hk hf
            have e0 : ev (.tmp 34) = .slice (some ⟨bg, bo + 12, Option.none⟩) 4 (c - 12) := hf.1
            refine OpOk.enters (f := 95) (args := #[.slice (some ⟨bg, bo + 12, Option.none⟩) 4 (c - 12)]) (W' := X) (by simp [execOp, resolve, invoke, e0, hb.1, hb.2.1, go_sem]) ((HN.out 12 X (by omega) (HbX.out.below hT)).mono ?_)
            rintro e X2 ⟨rfl, rfl⟩
            exact ⟨_, rfl, rfl, Stay.refl _⟩
          · exact fun ev X hT hb hk hf => OpOk.move rfl hk.1 ⟨rfl, Stay.refl _⟩
          · intro ev X hT hb hk hf
            have e0 : ev (.tmp 36) = .slice (some ⟨bg, bo, Option.none⟩) 160 c := hf.1
            exact OpOk.run (v := .slice (some ⟨bg, bo + 16, Option.none⟩) 4 (c - 16)) (W' := X) (by simp [execOp, e0, hb.1, y16, z16, go_sem]) ⟨rfl, Stay.refl _⟩
          · intro ev X hT hb hk hf
            have e0 : ev (.tmp 37) = .slice (some ⟨bg, bo + 16, Option.none⟩) 4 (c - 16) := hf.1
            refine OpOk.enters (f := 95) (args := #[.slice (some ⟨bg, bo + 16, Option.none⟩) 4 (c - 16)]) (W' := X) (by simp [execOp, resolve, invoke, e0, hb.1, hb.2.1, go_sem]) ((HN.out 16 X (by omega) (HbX.out.below hT)).mono ?_)
            rintro e X2 ⟨rfl, rfl⟩
            exact ⟨_, rfl, rfl, Stay.refl _⟩
          · exact fun ev X hT hb hk hf => OpOk.move rfl hk.1 ⟨rfl, Stay.refl _⟩
          · intro ev X hT hb hk hf
            have e0 : ev (.tmp 39) = .slice (some ⟨bg, bo, Option.none⟩) 160 c := hf.1
            exact OpOk.run (v := .pointer (some ⟨bg, bo + 20, Option.none⟩)) (W' := X) (by simp [execOp, e0, hb.1, go_sem]) ⟨rfl, Stay.refl _⟩
          · intro ev X hT hb hk hf
            have e0 : ev (.tmp 40) = .pointer (some ⟨bg, bo + 20, Option.none⟩) := hf.1
            have cW := c20.out X hT
            exact OpOk.run (v := vb (l.getD 20 0)) (W' := X) (by simp [execOp, e0, cW, go_sem]) ⟨rfl, Stay.refl _⟩
          · exact fun ev X hT hb hk hf => OpOk.move rfl hk.1 ⟨rfl, Stay.refl _⟩
          · intro ev X hT hb hk hf
            have e0 : ev (.tmp 42) = .slice (some ⟨bg, bo, Option.none⟩) 160 c := hf.1
            exact OpOk.run (v := .slice (some ⟨bg, bo + 24, Option.none⟩) 4 (c - 24)) (W' := X) (by simp [execOp, e0, hb.1, y24, z24, go_sem]) ⟨rfl, Stay.refl _⟩
          · intro ev X hT hb hk hf
            have e0 : ev (.tmp 43) = .slice (some ⟨bg, bo + 24, Option.none⟩) 4 (c - 24) := hf.1
            refine OpOk.enters (f := 95) (args := #[.slice (some ⟨bg, bo + 24, Option.none⟩) 4 (c - 24)]) (W' := X) (by simp [execOp, resolve, invoke, e0, hb.1, hb.2.1, go_sem]) ((HN.out 24 X (by omega) (HbX.out.below hT)).mono ?_)
            rintro e X2 ⟨rfl, rfl⟩
            exact ⟨_, rfl, rfl, Stay.refl _⟩
          · intro ev X hT hb hk hf
            have e0 : ev (.tmp 29) = u32v (numS l 4 4) := hf.1
            have e1 : ev (.tmp 32) = u32v (numS l 8 4) := hf.2.1
            have e2 : ev (.tmp 35) = u32v (numS l 12 4) := hf.2.2.1
            have e3 : ev (.tmp 38) = u32v (numS l 16 4) := hf.2.2.2.1
            have e4 : ev (.tmp 41) = vb (l.getD 20 0) := hf.2.2.2.2.1
            have e5 : ev (.tmp 44) = u32v (numS l 24 4) := hf.2.2.2.2.2.1
            exact OpOk.run (v := .agg (refCells (readS l) nilV)) (W' := X) (by simp [execOp, e0, e1, e2, e3, e4, e5, go_sem, readS]) ⟨rfl, Stay.refl _⟩
          · intro ev X hT hb hk hf
            exact OpOk.run (v := .pointer (some ⟨X.heap.size, 0, Option.none⟩)) (W' := X.alloc (.cells zcr 60)) (by simp [execOp, go_sem]) ⟨⟨_, rfl, (HwX.out.below hT).alloc _⟩, (Below.refl _ _).alloc (Nat.le_refl _) _⟩
        case rest =>
          intro X hT
          rintro v0 - v1 - v2 - v3 - v4 - v5 - v6 - v7 - v8 - v9 - v10 - v11 - v12 - v13 - v14 - v15 - v16 - v17 - _ rfl _ ⟨g, rfl, hg⟩
          have hgc := on_blk_mul hg
          have hin : (readS l).init = (l.drop 28).take (min (l.getD 21 0).toNat 128) := rfl
          have Hin := hide hin
          have HsX1 := hide (HsX.out.trans (Str.below hT))
          have Hg := hide hg
          clear hg hin c20
          generalize hRR : readS l = R at *
          have HR := hide hRR
          clear hRR
          go_wp2
          refine Rest.done ?_
          refine wpList_store_row rfl _ _ _ rfl g (refCells R nilV) rfl rfl _ _ hgc hsr (zcr_size _ _) (refCells_one _ _ _ _) ?_
          have Hg2 := hide (Hg.out.setRow (refCells R nilV))
          have HsX2 := hide (HsX1.out.setRow g (refCells R nilV))
          clear hgc Hg hT HsX HsX1 HwX HbX
          generalize X.setRow g (refCells R nilV) = X1 at *
          have hb2 := all_below Hg2.out.right.right HsX2.out
          have HbX := hide hb2
          have c21' := c21.out X1 hb2
          have h0 := on_blk_mul Hg2.out.right
          generalize l.getD 21 0 = c21v at *
          have hmin := UInt8.toNat_lt c21v
          clear hb2 c21
          by_cases hbig : 128 < c21v.toNat
          · have HE7 := hide (HL.out hbig)
            clear HE HL
            go_wp2_with (refine wpList_store_row rfl _ _ _ rfl w.heap.size zcr rfl rfl _ _ h0 hsr rfl zcr_one ?_)
            refine bodyPost_ret (v := .tuple #[.agg zcr, .int .i64 7]) (results_cell_row_tmp Try.results62 _ _ w.heap.size _ zcr (0, 0) _ rfl (setRow_heap_same _ _ _ _ _ _ h0) hur rfl hsr (.int .i64 7) rfl) rfl ?_
            exact RParseEnd.err HE7.out (by decide) (below_setRow HbX.out (Nat.le_refl _) _) 7 rfl
          · have hN : min c21v.toNat 128 = c21v.toNat := by omega
            rw [hN] at Hin
            clear hN HL
            have hu := Try.underlying33
            have Hib := hide ((IsBytes.below (w := w) (w' := X1) ⟨_, _, by rw [Hl.out], by rw [Hl.out]; exact hc, hm, Hla.out, by simp⟩ HbX.out).mid 28 c21v.toNat (by rw [Hl.out]; omega))
            have f1 : (28 + (c21v.toNat : Int)).toNat = 28 + c21v.toNat := by omega
            have f2 : (28 : Int) ≤ 28 + (c21v.toNat : Int) := by omega
            have f3 : (28 : Int) + (c21v.toNat : Int) ≤ (c : Int) := by omega
            have f4 : (0 : Int) ≤ 28 + (c21v.toNat : Int) := by omega
            have hz0 : c ≠ 28 := by omega
            have hln : ((l.drop 28).take c21v.toNat).length = c21v.toNat := by rw [List.length_take, List.length_drop, Hl.out]; omega
            have Hin2 := hide (show R.init = (l.drop 28).take c21v.toNat from Hin.out)
            generalize (l.drop 28).take c21v.toNat = news at *
            have Hown := hide (own_new 5 1 0 [] Hg2.out rfl (by decide))
            have h128 : Hid (R.init.length ≤ 128) := hide (by rw [Hin2.out, hln]; omega)
            go_wp2_with (first
              | (at_builtin; refine wpList_append_bytes (F := blk g (.cells (refCells R nilV) 60 (0, 0)) * (blk w.heap.size (.cells zcr 60 (0, 0)) * all w)) rfl _ _ 33 rfl 5 hu infoR _ [] news rfl Hown.out _ rfl (Hib.out.below alloc1) (by simp; omega) ?_; intro v w2 ho hs; rw [List.nil_append, hln] at ho; obtain ⟨oa, oc, rfl, _, _, _, _⟩ := own_value ho; have Hst2 := hide (((HsX2.out.alloc _).trans hs).setCell ⟨g, 6, Option.none⟩ (.slice oa c21v.toNat oc)); have fr := frozen_of_row _ _ 6 _ _ (on_blk_mul ho.right); have cc := cell_of_row _ _ 6 _ _ _ (on_blk_mul ho.right); have ho2 := ho; rw [SP.mul_left_comm] at ho2; have h3 := SP.on.setCell (i := 6) ho2 (.slice oa c21v.toNat oc); have h4 : (blk g (.cells (refCells R (.slice oa c21v.toNat oc)) 60 (0, 0)) * (own 5 1 (.slice oa c21v.toNat oc) c21v.toNat (vbs news) * (blk w.heap.size (.cells zcr 60 (0, 0)) * all w))).on (w2.setCell ⟨g, 6, Option.none⟩ (.slice oa c21v.toNat oc)) := h3; have hg := on_blk_mul h4; have hE := rrencode_any R _ _ Hok.out (by rw [Hin2.out]; exact own_bytes h4.right); have H4 := hide h4; clear ho hs ho2 h3 h4)
              | (refine wpList_load_row rfl _ _ rfl g rfl _ (refCells R _) _ _ hg hur rfl hsr ?_))
            refine hE.mono ?_
            clear hE hg fr cc
            rintro e w5 (⟨hrt, out, rfl, ho5, hs5⟩ | ⟨hrt, rfl, hb5⟩)
            · have HF := hide (on_all_to ho5 H4.out)
              have HS5 := hide (Hst2.out.trans hs5)
              have hlo := recBytes_len R h128.out
              have HE2 := hide (show recErr l = if recBytes R = l then 0 else 7 by rw [HE.out, hrt]; simp)
              clear ho5 hs5 HE hrt H4 Hst2 h0 c21' Hown Hib
              unfold ownR at HF
              rw [hlo] at HF
              generalize recBytes R = outl at *
              have Hlo := hide hlo
              obtain ⟨og, oc5, rfl, hc5, _⟩ := own_block HF.out (by omega)
              clear hlo
              go_wp2_with fail
              go_loopw [8] (fun i wr => ∃ k : Nat, k ≤ 160 ∧ i = .int .i64 k ∧ (∀ j, j < k → l[j]? = outl[j]?) ∧ (own 5 1 (.slice (some ⟨og, 0, Option.none⟩) 160 oc5) 160 (vbs outl) * (blk g (.cells (refCells R (.slice oa c21v.toNat oc)) 60 (0, 0)) * (own 5 1 (.slice oa c21v.toNat oc) c21v.toNat (vbs news) * (blk w.heap.size (.cells zcr 60 (0, 0)) * all w)))).on wr ∧ Str w wr) (fun i _ => 160 - (intOf i).toNat)
              case atStart => exact ⟨0, by omega, rfl, fun j hj => by omega, HF.out, HS5.out⟩
              case round =>
                obtain ⟨k, hk, rfl, hpre, hF, hstr⟩ := hrel
                have h0 := on_blk_mul hF.right.right.right
                have hbel := all_below hF.right.right.right.right hstr
                by_cases hlt : k < 160
                · have g1 := vbs_get l k (by rw [Hl.out]; omega)
                  have g2 := vbs_get outl k (by rw [Hlo.out]; omega)
                  have c1 := Lay.cell (Hla.out.below hbel) k g1
                  have c2 := own_cell hF k _ g2
                  have hlk : l[k]? = some (l[k]'(by rw [Hl.out]; omega)) := List.getElem?_eq_getElem _
                  have hok : outl[k]? = some (outl[k]'(by rw [Hlo.out]; omega)) := List.getElem?_eq_getElem _
                  have Hpre := hide hpre
                  have HF2 := hide hF
                  have Hbel := hide hbel
                  have Hstr := hide hstr
                  have hkc : (k : Int) < 160 := by omega
                  have hk0 : (0 : Int) ≤ (k : Int) := by omega
                  generalize l[k]'(by rw [Hl.out]; omega) = x at *
                  generalize outl[k]'(by rw [Hlo.out]; omega) = y at *
                  have Hlk := hide hlk
                  have Hok2 := hide hok
                  clear hlk hok g1 g2 hpre hF hbel hstr HF
                  by_cases hxy : x = y
                  · have exy : (((x.toNat : Nat) : Int) != ((y.toNat : Nat) : Int)) = false := by rw [hxy]; simp
                    have Hxy := hide hxy
                    clear hxy
                    go_wp2_with fail
                    go_quiet (fail)
                    go_wp2_with fail
                    refine ⟨⟨k + 1, by omega, by simp, ?_, HF2.out.drewN _, Hstr.out.drewN _⟩, by simp [intOf]; omega⟩
                    intro j hj
                    by_cases hjk : j < k
                    · exact Hpre.out j hjk
                    · obtain rfl : j = k := by omega
                      rw [Hlk.out, Hok2.out, Hxy.out]
                  · have exy : (((x.toNat : Nat) : Int) != ((y.toNat : Nat) : Int)) = true := by
                      have : x.toNat ≠ y.toNat := fun h => hxy (UInt8.toNat_inj.1 h)
                      simp; omega
                    have HE7 := hide (show recErr l = 7 by
                      rw [HE2.out, if_neg]
                      intro e
                      have h1 := Hlk.out
                      rw [← e, Hok2.out] at h1
                      exact hxy (Option.some.inj h1).symm)
                    clear hxy
                    go_wp2_with fail
                    go_quiet (fail)
                    have h0' : (wr.drewN nq).heap[w.heap.size]? = some (.cells zcr 60) := h0
                    have HB7 := hide (Below.drewN' Hbel.out nq)
                    generalize wr.drewN nq = X7 at *
                    go_wp2_with (refine wpList_store_row rfl _ _ _ rfl w.heap.size zcr rfl rfl _ _ h0' hsr rfl zcr_one ?_)
                    refine bodyPost_ret (v := .tuple #[.agg zcr, .int .i64 7]) (results_cell_row_tmp Try.results62 _ _ w.heap.size _ zcr (0, 0) _ rfl (setRow_heap_same _ _ _ _ _ _ h0') hur rfl hsr (.int .i64 7) rfl) rfl ?_
                    exact RParseEnd.err HE7.out (by decide) (below_setRow HB7.out (Nat.le_refl _) _) 7 rfl
                · obtain rfl : k = 160 := by omega
                  have heq : outl = l := List.ext_getElem? fun j => by
                    rcases Nat.lt_or_ge j 160 with hj | hj
                    · exact (hpre j hj).symm
                    · rw [List.getElem?_eq_none (by rw [Hlo.out]; exact hj), List.getElem?_eq_none (by rw [Hl.out]; exact hj)]
                  have HE0 := hide (show recErr l = 0 by rw [HE2.out, if_pos heq])
                  have hg := on_blk_mul hF.right
                  have HF3 := hide hF.right.right
                  have Hstr := hide hstr
                  clear heq hpre hF hstr hbel HF HE2 hlt hk
                  go_wp2_with (first
                    | (refine wpList_store_row rfl _ _ _ rfl w.heap.size (refCells R _) rfl rfl _ _ h0 hsr (zcr_size _ _) (refCells_one _ _ _ _) ?_)
                    | (refine wpList_load_row rfl _ _ rfl g rfl _ (refCells R _) _ _ hg hur rfl hsr ?_))
                  refine bodyPost_ret (v := .tuple #[.agg (refCells R (.slice oa c21v.toNat oc)), .int .i64 0]) (results_cell_row_tmp Try.results62 _ _ w.heap.size _ (refCells R _) (0, 0) _ rfl (setRow_heap_same _ _ _ _ _ _ h0) hur rfl hsr (.int .i64 0) rfl) rfl ?_
                  have hg2 : recGot l = R := by unfold recGot; rw [HE0.out, if_pos rfl, HR.out]
                  refine ⟨.slice oa c21v.toNat oc, by rw [hg2, HE0.out]; rfl, ?_, Hstr.out.setRow _ _⟩
                  rw [hg2]
                  have h5 := HF3.out
                  rw [SP.mul_left_comm] at h5
                  have h6 := (h5.setRow (refCells R (.slice oa c21v.toNat oc))).right
                  unfold ownR
                  rw [Hin2.out, hln]
                  exact h6
            · have hb6 := Below.trans (all_below H4.out.right.right.right Hst2.out) (hb5.mono Hst2.out.size)
              have h0' := (H4.out.right.right.below hb5)
              have h0'' := on_blk_mul h0'
              have HE7 := hide (show recErr l = 7 by rw [HE.out, hrt]; simp)
              have HB6 := hide hb6
              clear h0' hb5 hb6 HE hrt H4 h0 c21' Hown Hib
              go_wp2_with (refine wpList_store_row rfl _ _ _ rfl w.heap.size zcr rfl rfl _ _ h0'' hsr rfl zcr_one ?_)
              refine bodyPost_ret (v := .tuple #[.agg zcr, .int .i64 7]) (results_cell_row_tmp Try.results62 _ _ w.heap.size _ zcr (0, 0) _ rfl (setRow_heap_same _ _ _ _ _ _ h0'') hur rfl hsr (.int .i64 7) rfl) rfl ?_
              exact RParseEnd.err HE7.out (by decide) (below_setRow HB6.out (Nat.le_refl _) _) 7 rfl
      · have HE := hide (show recErr l = 8 by unfold recErr; rw [if_neg (by simp [hl, hk]), if_pos (by simpa using hs)])
        have HN1 := hide fun n => HN.out 156 ((w.alloc (.cells zcr 60)).drewN n) (by omega) (Hb.out.below (Below.drewN' (Below.refl _ _) n))
        have HC1 := hide fun n => HC.out ((w.alloc (.cells zcr 60)).drewN n) (Hb.out.below (Below.drewN' (Below.refl _ _) n))
        have e1 : (((numS l 156 4 : Nat) : Int) != ((chkN (l.take 156) : Nat) : Int)) = true := by simp; omega
        generalize numS l 156 4 = ck at *
        generalize chkN (l.take 156) = cs at *
        clear hk hs hl
        go_enter Try.func62, Try.ntmps62
        go_wp2_with fail
        refine h0.mono ?_
        rintro e _ ⟨rfl, rfl⟩
        go_wp2_with fail
        go_quiet (first
          | (go_at_call 95; exact Calls.quiet_of_same ((HN1.out _).mono fun _ _ ⟨h1, h2⟩ => ⟨h1, h2.symm⟩))
          | (go_at_call 96; exact Calls.quiet_of_same ((HC1.out _).mono fun _ _ ⟨h1, h2⟩ => ⟨h1, h2.symm⟩)))
        have hr1 : ((w.alloc (.cells zcr 60)).drewN nq).heap[w.heap.size]? = some (.cells zcr 60) := hr0
        have HB1 := hide (Below.drewN' (alloc1 (w := w) (o := .cells zcr 60)) nq)
        generalize (w.alloc (.cells zcr 60)).drewN nq = X1 at *
        go_wp2_with (refine wpList_store_row rfl _ _ _ rfl w.heap.size zcr rfl rfl _ _ hr1 hsr rfl zcr_one ?_)
        refine bodyPost_ret (v := .tuple #[.agg zcr, .int .i64 8]) (results_cell_row_tmp Try.results62 _ _ w.heap.size _ zcr (0, 0) _ rfl (setRow_heap_same _ _ _ _ _ _ hr1) hur rfl hsr (.int .i64 8) rfl) rfl ?_
        exact RParseEnd.err HE.out (by decide) (below_setRow HB1.out (Nat.le_refl _) _) 8 rfl
    · have e0 : (((numS l 0 4 : Nat) : Int) != 827216706) = true := by simp; omega
      have HE := hide (show recErr l = 7 by unfold recErr; rw [if_pos (by simp [hk])])
      generalize numS l 0 4 = ck at *
      clear hk hl
      go_enter Try.func62, Try.ntmps62
      go_wp2_with fail
      refine h0.mono ?_
      rintro e _ ⟨rfl, rfl⟩
      go_wp2_with (refine wpList_store_row rfl _ _ _ rfl w.heap.size zcr rfl rfl _ _ hr0 hsr rfl zcr_one ?_)
      refine bodyPost_ret (v := .tuple #[.agg zcr, .int .i64 7]) (results_cell_row_tmp Try.results62 _ _ w.heap.size _ zcr (0, 0) _ rfl (setRow_heap_same _ _ _ _ _ _ hr0) hur rfl hsr (.int .i64 7) rfl) rfl ?_
      exact RParseEnd.err HE.out (by decide) (below_setRow alloc1 (Nat.le_refl _) _) 7 rfl
  · have HE := hide (show recErr l = 7 by unfold recErr; rw [if_pos (by simp [hl])])
    obtain ⟨a, c, rfl, hc, hm, hla, hn⟩ := h
    have e0 : (((l.length : Nat) : Int) != 160) = true := by simp; omega
    clear hla hn hb hl
    go_enter Try.func62, Try.ntmps62
    go_wp2_with (refine wpList_store_row rfl _ _ _ rfl w.heap.size zcr rfl rfl _ _ hr0 hsr rfl zcr_one ?_)
    refine bodyPost_ret (v := .tuple #[.agg zcr, .int .i64 7]) (results_cell_row_tmp Try.results62 _ _ w.heap.size _ zcr (0, 0) _ rfl (setRow_heap_same _ _ _ _ _ _ hr0) hur rfl hsr (.int .i64 7) rfl) rfl ?_
    exact RParseEnd.err HE.out (by decide) (below_setRow alloc1 (Nat.le_refl _) _) 7 rfl
end Go.Proofs.Ytjmgnfpcieofkaa
