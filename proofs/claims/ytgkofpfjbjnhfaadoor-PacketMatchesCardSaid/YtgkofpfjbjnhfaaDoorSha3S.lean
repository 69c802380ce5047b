/- SHA-2 on words of 32 bits: a block is taken into the state. -/
import Derived.Test.YtgkofpfjbjnhfaaDoorSha2S
import Derived.Test.YtgkofpfjbjnhfaaDoorFree
namespace Go.Proofs.YtgkofpfjbjnhfaaDoor
open Go.ChangeShapes Go.WideShapes Go.ChangeAt Go.RowKit
namespace Sha32
set_option linter.unusedVariables false
set_option linter.unusedSimpArgs false

theorem _root_.Go.Proofs.YtgkofpfjbjnhfaaDoor.SP.on_mul_cut {A B C F : SP} {w : World} (h : (A * (B * (C * F))).on w) : (A * F).on w :=
  (SP.le.mul (SP.le.refl A) ((SP.le_right B _).trans (SP.le_right C F))).on h
/-- the package's tables -/
structure Tab (w : World) : Prop where
  rounds : ∀ i, i < 64 → w.cell? ⟨7, i, Option.none⟩ = some (v32 (K i))
  first : ∀ i x, H0.list[i]? = some x → w.cell? ⟨6, i, Option.none⟩ = some (v32 x)
theorem Tab.below {w w' : World} (h : Tab w) (hb : Below w.heap.size w w') : Tab w' :=
  ⟨fun i hi => (hb.cell (p := ⟨7, i, Option.none⟩) (World.block_lt_of_cell? w _ (h.rounds i hi))).trans (h.rounds i hi),
   fun i x hx => (hb.cell (p := ⟨6, i, Option.none⟩) (World.block_lt_of_cell? w _ (h.first i x hx))).trans (h.first i x hx)⟩
/-- the cells of a hash, the state as a list -/
def cellsG (sl : List UInt32) (left : List UInt8) (n : Nat) : List Value := sl.map v32 ++ (vbs left ++ [.int .u64 (n : Int)])
theorem cellsG_eq (s : St) (left : List UInt8) (n : Nat) : (cellsG s.list left n).toArray = cells s left n := rfl
theorem cellsG_get (sl : List UInt32) (left : List UInt8) (n i : Nat) {x : UInt32} (h : sl[i]? = some x) : (cellsG sl left n).toArray[i]? = some (v32 x) := by
  have hi := (List.getElem?_eq_some_iff.1 h).1
  rw [List.getElem?_toArray]
  unfold cellsG
  rw [List.getElem?_append_left (by simpa using hi), List.getElem?_map, h]
  rfl
theorem cellsG_set (sl : List UInt32) (left : List UInt8) (n i : Nat) (x : UInt32) (hi : i < sl.length) : (cellsG sl left n).toArray.setIfInBounds i (v32 x) = (cellsG (sl.set i x) left n).toArray := by
  unfold cellsG
  rw [List.setIfInBounds_toArray, List.set_append_left _ _ (by simpa using hi), ← List.map_set]
def mixL (s t : St) (k : Nat) : List UInt32 := (addS s t).list.take k ++ s.list.drop k
theorem mixL_len (s t : St) (k : Nat) (hk : k ≤ 8) : (mixL s t k).length = 8 := by
  simp only [mixL, List.length_append, List.length_take, List.length_drop, list_len]; omega
theorem mixL_next (s t : St) (k : Nat) (hk : k < 8) : ∃ x y, t.list[k]? = some y ∧ (mixL s t k)[k]? = some x ∧ (mixL s t k).set k (x + y) = mixL s t (k + 1) := by
  obtain ⟨a, b, c, d, e, f, g, h⟩ := s
  obtain ⟨a', b', c', d', e', f', g', h'⟩ := t
  rcases (show k = 0 ∨ k = 1 ∨ k = 2 ∨ k = 3 ∨ k = 4 ∨ k = 5 ∨ k = 6 ∨ k = 7 by omega) with rfl | rfl | rfl | rfl | rfl | rfl | rfl | rfl <;> exact ⟨_, _, rfl, rfl, rfl⟩
abbrev z8 : Array Value := wv (List.replicate 8 0)
def stc (s : St) : Array Value := wv s.list
theorem stc_eq (s : St) : stc s = #[v32 s.a, v32 s.b, v32 s.c, v32 s.d, v32 s.e, v32 s.f, v32 s.g, v32 s.h] := rfl
theorem stc_size (s : St) : (stc s).size = 8 := rfl
theorem stc_one (s : St) : (stc s).all (·.oneCell') = true := wv_one _
theorem add2 (a b : UInt32) : ((a.toNat : Int) + (b.toNat : Int)) % (4294967296 : Int) = ((a + b).toNat : Int) := by
  simp only [UInt32.toNat_add]
  omega

theorem wpList_store8 {P : Program} {ops : Array Oper} {rest : List Oper} {o : Oper} {a : Act} {w : World} {Q : Exit → Act → World → Prop} (hgd : o.guard = Option.none) (ty : TypeId) (x y : Operand) (ho : o.op = .store ty x y)
    (g : Nat) (v0 v1 v2 v3 v4 v5 v6 v7 : Value) (hx : a.eval x = .pointer (some ⟨g, 0, Option.none⟩)) (hy : a.eval y = .agg #[v0, v1, v2, v3, v4, v5, v6, v7])
    (t : TypeId) (old : Array Value) (hg : w.heap[g]? = some (.cells old t (0, 0))) (hi : (P.info? ty).map (·.size) = some 8) (hold : old.size = 8)
    (h1 : v0.oneCell' = true ∧ v1.oneCell' = true ∧ v2.oneCell' = true ∧ v3.oneCell' = true ∧ v4.oneCell' = true ∧ v5.oneCell' = true ∧ v6.oneCell' = true ∧ v7.oneCell' = true)
    (h : wpList P ops Q rest (a.put o.dst undef) (w.setRow g #[v0, v1, v2, v3, v4, v5, v6, v7])) : wpList P ops Q (o :: rest) a w :=
  wpList_store_row hgd ty x y ho g _ hx hy t old hg hi hold (by obtain ⟨e0, e1, e2, e3, e4, e5, e6, e7⟩ := h1; simp [e0, e1, e2, e3, e4, e5, e6, e7]) h
theorem setRow_congr {F : SP} {w : World} {g : Nat} {u v : Array Value} (h : F.on (w.setRow g u)) (e : u = v) : F.on (w.setRow g v) := e ▸ h
theorem arr8 {α : Type} {a0 a1 a2 a3 a4 a5 a6 a7 b0 b4 : α} (h0 : a0 = b0) (h4 : a4 = b4) : #[a0, a1, a2, a3, a4, a5, a6, a7] = #[b0, a1, a2, a3, b4, a5, a6, a7] := by rw [h0, h4]
set_option maxRecDepth 100000 in
set_option maxHeartbeats 8000000 in
theorem mix_any (s : St) (left : List UInt8) (n p : Nat) (F : SP) (w : World) (h : (blk p (.cells (cells s left n) 147 (0, 0)) * F).on w) (hl : left.length = 64) (hT : ∀ X, F.on X → Tab X) :
    Calls Tryd.prog 108 #[.pointer (some ⟨p, 0, Option.none⟩)] w fun e w' => (∃ v, e = .returned v) ∧ (blk p (.cells (cells (compress s left) left n) 147 (0, 0)) * F).on w' ∧ Str w w' := by
  have hz8 : ∀ w, (zeroValue 145).run Tryd.prog w = .ok (.agg z8) w := fun w => by kernel_rfl
  have hzR : ∀ w, (zeroValue 148).run Tryd.prog w = .ok (.agg zW) w := fun w => by kernel_rfl
  have hu8 := Tryd.underlying145
  have huR := Tryd.underlying148
  have hs8 : (Tryd.prog.info? 145).map (·.size) = some 8 := by kernel_rfl
  have hsR : (Tryd.prog.info? 148).map (·.size) = some 64 := by kernel_rfl
  have Hh := hide h
  have HT := hide hT
  have hSc := schedule_any s left n p w (on_blk_mul h) hl
  clear h hT
  go_enter Tryd.func108, Tryd.ntmps108
  go_wp2_with fail
  refine hSc.mono ?_
  clear hSc
  rintro e w1 ⟨v1, rfl, ho, hs⟩
  obtain ⟨rfl, _⟩ := on_pure_mul.1 ho
  have h1 := (on_all_to ho Hh.out).right
  have HS1 := hide hs
  clear ho hs
  have hsW : (wv (wL left 64)).size = 64 := by rw [wv_size, wL_len left _ (Nat.le_refl _)]
  have hzz : zW.size = (wv (wL left 64)).size := by rw [hsW, wv_size, List.length_replicate]
  have hoW := wv_one (wL left 64)
  have hwl : wL left 64 = sched left 64 := by unfold wL; simp
  rw [← hsW] at hsR
  have hr1 := heap_alloc_new w1 (.cells zW 148)
  have h2 := (h1.alloc (.cells zW 148)).setRow (wv (wL left 64))
  have hs2 := (HS1.out.alloc (.cells zW 148)).setRow w1.heap.size (wv (wL left 64))
  have Hwl := hide hwl
  clear hwl h1
  generalize hWv : wv (wL left 64) = Wv at *
  have HWv := hide hWv
  clear hWv
  generalize hw2 : (w1.alloc (.cells zW 148)).setRow w1.heap.size Wv = w2 at *
  have Hw2 := hide hw2
  clear hw2
  have HsR := hide hsR
  have Hzz := hide hzz
  have HoW := hide hoW
  have HsW := hide hsW
  have Hr1 := hide hr1
  have H2 := hide h2
  have HS2 := hide hs2
  have Hpart : Hid (∀ j v, (stc s)[j]? = some v → w2.cell? ⟨p, 0 + j, Option.none⟩ = some v) := hide (fun j v hj => by
    have hj8 : j < 8 := by
      have := (Array.getElem?_eq_some_iff.1 hj).1
      rwa [stc_size] at this
    rw [Nat.zero_add, cell_of_blk h2.right j (cells_st s left n j hj8)]
    rw [← hj]
    unfold stc
    rw [wv_get _ j (List.getElem?_eq_getElem (by rw [list_len]; exact hj8))])
  have Hr2 := hide (heap_alloc_new w2 (.cells z8 145))
  have h3 := (h2.alloc (.cells z8 145)).setRow (stc s)
  have hs3 := (hs2.alloc (.cells z8 145)).setRow w2.heap.size (stc s)
  have Hst8 := hide hs8
  generalize hw3 : (w2.alloc (.cells z8 145)).setRow w2.heap.size (stc s) = w3 at *
  have Hw3 := hide hw3
  have H3 := hide h3
  have HS3 := hide hs3
  have Hz8 : Hid (z8.size = (stc s).size) := hide rfl
  have Ho8 := hide (stc_one s)
  have Hg8 : Hid ((Tryd.prog.info? 145).map (·.size) = some (stc s).size) := hide hs8
  generalize hS8 : stc s = S8 at *
  have HS8 := hide hS8
  clear hsR hzz hoW hsW hr1 h2 hs2 h3 hs3 hw3 hS8
  go_wp2_with (first
    | (refine wpList_store_row rfl _ _ _ rfl w1.heap.size Wv rfl rfl _ _ Hr1.out HsR.out Hzz.out HoW.out ?_; rw [Hw2.out])
    | (refine wpList_load_part rfl _ _ rfl p 0 rfl S8 _ Hpart.out hu8 rfl Hg8.out ?_)
    | (refine wpList_store_row rfl _ _ _ rfl w2.heap.size S8 rfl rfl _ _ Hr2.out Hg8.out Hz8.out Ho8.out ?_; rw [Hw3.out]))
  clear HsR Hzz HoW HsW Hr1 H2 HS2 Hpart Hr2 Hz8 Ho8 Hg8 Hst8
  go_loopw [23] (fun i wr => ∃ k : Nat, k ≤ 64 ∧ i = .int .i64 k ∧ (blk w2.heap.size (.cells (stc (runR s (sched left 64) k)) 145 (0, 0)) * (blk w1.heap.size (.cells Wv 148 (0, 0)) * (blk p (.cells (cells s left n) 147 (0, 0)) * F))).on wr ∧ Str w wr) (fun i _ => 64 - (intOf i).toNat)
  case atStart => exact ⟨0, Nat.zero_le _, rfl, by have h9 := H3.out; rw [← HS8.out] at h9; exact h9, HS3.out⟩
  case round =>
    obtain ⟨k, hk, rfl, hw, hstr⟩ := hrel
    by_cases hlt : k < 64
    · have HN := hide (show runR s (sched left 64) (k + 1) = rnd (runR s (sched left 64) k) (K k) ((sched left 64).getD k 0) from rfl)
      have hW0 : Wv[k]? = some (v32 ((sched left 64).getD k 0)) := by
        rw [← HWv.out]
        exact wv_get _ _ (wL_get left 64 k hlt)
      have cw := cell_of_blk hw.right k hW0
      have ck := (HT.out _ hw.right.right.right).rounds k hlt
      generalize (sched left 64).getD k 0 = ww at *
      generalize K k = kk at *
      generalize runR s (sched left 64) k = st at *
      obtain ⟨a0, a1, a2, a3, a4, a5, a6, a7⟩ := st
      have hb3 := on_blk_mul hw
      have C0 : Hid (∀ X, Stay wr X → X.cell? ⟨w2.heap.size, 0, Option.none⟩ = some (v32 a0)) := hide fun X hT => cell_of_blk (hw.below hT) 0 rfl
      have C1 : Hid (∀ X, Stay wr X → X.cell? ⟨w2.heap.size, 1, Option.none⟩ = some (v32 a1)) := hide fun X hT => cell_of_blk (hw.below hT) 1 rfl
      have C2 : Hid (∀ X, Stay wr X → X.cell? ⟨w2.heap.size, 2, Option.none⟩ = some (v32 a2)) := hide fun X hT => cell_of_blk (hw.below hT) 2 rfl
      have C3 : Hid (∀ X, Stay wr X → X.cell? ⟨w2.heap.size, 3, Option.none⟩ = some (v32 a3)) := hide fun X hT => cell_of_blk (hw.below hT) 3 rfl
      have C4 : Hid (∀ X, Stay wr X → X.cell? ⟨w2.heap.size, 4, Option.none⟩ = some (v32 a4)) := hide fun X hT => cell_of_blk (hw.below hT) 4 rfl
      have C5 : Hid (∀ X, Stay wr X → X.cell? ⟨w2.heap.size, 5, Option.none⟩ = some (v32 a5)) := hide fun X hT => cell_of_blk (hw.below hT) 5 rfl
      have C6 : Hid (∀ X, Stay wr X → X.cell? ⟨w2.heap.size, 6, Option.none⟩ = some (v32 a6)) := hide fun X hT => cell_of_blk (hw.below hT) 6 rfl
      have C7 : Hid (∀ X, Stay wr X → X.cell? ⟨w2.heap.size, 7, Option.none⟩ = some (v32 a7)) := hide fun X hT => cell_of_blk (hw.below hT) 7 rfl
      have CK : Hid (∀ X, Stay wr X → X.cell? ⟨7, k, Option.none⟩ = some (v32 kk)) := hide fun X hT => (hT.cell (p := ⟨7, k, Option.none⟩) (World.block_lt_of_cell? _ _ ck)).trans ck
      have CW : Hid (∀ X, Stay wr X → X.cell? ⟨w1.heap.size, k, Option.none⟩ = some (v32 ww)) := hide fun X hT => cell_of_blk (hw.below hT).right k hW0
      have HW := hide hw
      have HS := hide hstr
      have klt : (k : Int) < 64 := by omega
      clear hw hstr cw ck hb3 hW0 H3 HS3
      go_wp2_with fail
      refine wp_region_vs [isV (.pointer (some ⟨w2.heap.size, 0, Option.none⟩)), isV (v32 a0), isV (.pointer (some ⟨w2.heap.size, 1, Option.none⟩)), isV (v32 a1), isV (.pointer (some ⟨w2.heap.size, 2, Option.none⟩)), isV (v32 a2), isV (.pointer (some ⟨w2.heap.size, 3, Option.none⟩)), isV (v32 a3), isV (.pointer (some ⟨w2.heap.size, 4, Option.none⟩)), isV (v32 a4), isV (.pointer (some ⟨w2.heap.size, 5, Option.none⟩)), isV (v32 a5), isV (.pointer (some ⟨w2.heap.size, 6, Option.none⟩)), isV (v32 a6), isV (.pointer (some ⟨w2.heap.size, 7, Option.none⟩)), isV (v32 a7), isV (v32 a0), isV (v32 a1), isV (v32 a2), isV (v32 a3), isV (v32 a4), isV (v32 a5), isV (v32 a6), isV (v32 a7)]
        (by kernel_rfl) (by kernel_rfl) rfl ?keep ?todo ?rest
      case keep => exact ⟨Keep.isV _, Keep.isV _, Keep.isV _, Keep.isV _, Keep.isV _, Keep.isV _, Keep.isV _, Keep.isV _, Keep.isV _, Keep.isV _, Keep.isV _, Keep.isV _, Keep.isV _, Keep.isV _, Keep.isV _, Keep.isV _, Keep.isV _, Keep.isV _, Keep.isV _, Keep.isV _, Keep.isV _, Keep.isV _, Keep.isV _, Keep.isV _, trivial⟩
      case todo =>
        refine ⟨?_, ?_, ?_, ?_, ?_, ?_, ?_, ?_, ?_, ?_, ?_, ?_, ?_, ?_, ?_, ?_, ?_, ?_, ?_, ?_, ?_, ?_, ?_, ?_, trivial⟩
        · intro ev X hT hb hk hf
          have e0 : ev (.tmp 3) = .pointer (some ⟨w2.heap.size, 0, Option.none⟩) := hk.1
          exact OpOk.run (v := .pointer (some ⟨w2.heap.size, 0, Option.none⟩)) (W' := X) (by simp [execOp, e0, hb.1, go_sem]) ⟨rfl, Stay.refl _⟩
        · intro ev X hT hb hk hf
          have e0 : ev (.tmp 26) = .pointer (some ⟨w2.heap.size, 0, Option.none⟩) := hf.1
          have cW := C0.out X hT
          exact OpOk.run (v := v32 a0) (W' := X) (by simp [execOp, e0, cW, go_sem]) ⟨rfl, Stay.refl _⟩
        · intro ev X hT hb hk hf
          have e0 : ev (.tmp 3) = .pointer (some ⟨w2.heap.size, 0, Option.none⟩) := hk.1
          exact OpOk.run (v := .pointer (some ⟨w2.heap.size, 1, Option.none⟩)) (W' := X) (by simp [execOp, e0, hb.1, go_sem]) ⟨rfl, Stay.refl _⟩
        · intro ev X hT hb hk hf
          have e0 : ev (.tmp 28) = .pointer (some ⟨w2.heap.size, 1, Option.none⟩) := hf.1
          have cW := C1.out X hT
          exact OpOk.run (v := v32 a1) (W' := X) (by simp [execOp, e0, cW, go_sem]) ⟨rfl, Stay.refl _⟩
        · intro ev X hT hb hk hf
          have e0 : ev (.tmp 3) = .pointer (some ⟨w2.heap.size, 0, Option.none⟩) := hk.1
          exact OpOk.run (v := .pointer (some ⟨w2.heap.size, 2, Option.none⟩)) (W' := X) (by simp [execOp, e0, hb.1, go_sem]) ⟨rfl, Stay.refl _⟩
        · intro ev X hT hb hk hf
          have e0 : ev (.tmp 30) = .pointer (some ⟨w2.heap.size, 2, Option.none⟩) := hf.1
          have cW := C2.out X hT
          exact OpOk.run (v := v32 a2) (W' := X) (by simp [execOp, e0, cW, go_sem]) ⟨rfl, Stay.refl _⟩
        · intro ev X hT hb hk hf
          have e0 : ev (.tmp 3) = .pointer (some ⟨w2.heap.size, 0, Option.none⟩) := hk.1
          exact OpOk.run (v := .pointer (some ⟨w2.heap.size, 3, Option.none⟩)) (W' := X) (by simp [execOp, e0, hb.1, go_sem]) ⟨rfl, Stay.refl _⟩
        · intro ev X hT hb hk hf
          have e0 : ev (.tmp 32) = .pointer (some ⟨w2.heap.size, 3, Option.none⟩) := hf.1
          have cW := C3.out X hT
          exact OpOk.run (v := v32 a3) (W' := X) (by simp [execOp, e0, cW, go_sem]) ⟨rfl, Stay.refl _⟩
        · intro ev X hT hb hk hf
          have e0 : ev (.tmp 3) = .pointer (some ⟨w2.heap.size, 0, Option.none⟩) := hk.1
          exact OpOk.run (v := .pointer (some ⟨w2.heap.size, 4, Option.none⟩)) (W' := X) (by simp [execOp, e0, hb.1, go_sem]) ⟨rfl, Stay.refl _⟩
        · intro ev X hT hb hk hf
          have e0 : ev (.tmp 34) = .pointer (some ⟨w2.heap.size, 4, Option.none⟩) := hf.1
          have cW := C4.out X hT
          exact OpOk.run (v := v32 a4) (W' := X) (by simp [execOp, e0, cW, go_sem]) ⟨rfl, Stay.refl _⟩
        · intro ev X hT hb hk hf
          have e0 : ev (.tmp 3) = .pointer (some ⟨w2.heap.size, 0, Option.none⟩) := hk.1
          exact OpOk.run (v := .pointer (some ⟨w2.heap.size, 5, Option.none⟩)) (W' := X) (by simp [execOp, e0, hb.1, go_sem]) ⟨rfl, Stay.refl _⟩
        · intro ev X hT hb hk hf
          have e0 : ev (.tmp 36) = .pointer (some ⟨w2.heap.size, 5, Option.none⟩) := hf.1
          have cW := C5.out X hT
          exact OpOk.run (v := v32 a5) (W' := X) (by simp [execOp, e0, cW, go_sem]) ⟨rfl, Stay.refl _⟩
        · intro ev X hT hb hk hf
          have e0 : ev (.tmp 3) = .pointer (some ⟨w2.heap.size, 0, Option.none⟩) := hk.1
          exact OpOk.run (v := .pointer (some ⟨w2.heap.size, 6, Option.none⟩)) (W' := X) (by simp [execOp, e0, hb.1, go_sem]) ⟨rfl, Stay.refl _⟩
        · intro ev X hT hb hk hf
          have e0 : ev (.tmp 38) = .pointer (some ⟨w2.heap.size, 6, Option.none⟩) := hf.1
          have cW := C6.out X hT
          exact OpOk.run (v := v32 a6) (W' := X) (by simp [execOp, e0, cW, go_sem]) ⟨rfl, Stay.refl _⟩
        · intro ev X hT hb hk hf
          have e0 : ev (.tmp 3) = .pointer (some ⟨w2.heap.size, 0, Option.none⟩) := hk.1
          exact OpOk.run (v := .pointer (some ⟨w2.heap.size, 7, Option.none⟩)) (W' := X) (by simp [execOp, e0, hb.1, go_sem]) ⟨rfl, Stay.refl _⟩
        · intro ev X hT hb hk hf
          have e0 : ev (.tmp 40) = .pointer (some ⟨w2.heap.size, 7, Option.none⟩) := hf.1
          have cW := C7.out X hT
          exact OpOk.run (v := v32 a7) (W' := X) (by simp [execOp, e0, cW, go_sem]) ⟨rfl, Stay.refl _⟩
        · intro ev X hT hb hk hf
          have e0 : ev (.tmp 27) = v32 a0 := hf.1
          exact OpOk.assign rfl e0 ⟨rfl, Stay.refl _⟩
        · intro ev X hT hb hk hf
          have e0 : ev (.tmp 29) = v32 a1 := hf.1
          exact OpOk.assign rfl e0 ⟨rfl, Stay.refl _⟩
        · intro ev X hT hb hk hf
          have e0 : ev (.tmp 31) = v32 a2 := hf.1
          exact OpOk.assign rfl e0 ⟨rfl, Stay.refl _⟩
        · intro ev X hT hb hk hf
          have e0 : ev (.tmp 33) = v32 a3 := hf.1
          exact OpOk.assign rfl e0 ⟨rfl, Stay.refl _⟩
        · intro ev X hT hb hk hf
          have e0 : ev (.tmp 35) = v32 a4 := hf.1
          exact OpOk.assign rfl e0 ⟨rfl, Stay.refl _⟩
        · intro ev X hT hb hk hf
          have e0 : ev (.tmp 37) = v32 a5 := hf.1
          exact OpOk.assign rfl e0 ⟨rfl, Stay.refl _⟩
        · intro ev X hT hb hk hf
          have e0 : ev (.tmp 39) = v32 a6 := hf.1
          exact OpOk.assign rfl e0 ⟨rfl, Stay.refl _⟩
        · intro ev X hT hb hk hf
          have e0 : ev (.tmp 41) = v32 a7 := hf.1
          exact OpOk.assign rfl e0 ⟨rfl, Stay.refl _⟩
      case rest =>
        intro X hT
        rintro _ rfl _ rfl _ rfl _ rfl _ rfl _ rfl _ rfl _ rfl _ rfl _ rfl _ rfl _ rfl _ rfl _ rfl _ rfl _ rfl _ rfl _ rfl _ rfl _ rfl _ rfl _ rfl _ rfl _ rfl
        have CK' : Hid (∀ Y, Stay X Y → Y.cell? ⟨7, k, Option.none⟩ = some (v32 kk)) := hide fun Y h => CK.out Y (Stay.trans hT h)
        have CW' : Hid (∀ Y, Stay X Y → Y.cell? ⟨w1.heap.size, k, Option.none⟩ = some (v32 ww)) := hide fun Y h => CW.out Y (Stay.trans hT h)
        have HT1 := hide hT
        clear hT C0 C1 C2 C3 C4 C5 C6 C7 CK CW
        go_wp2
        refine Rest.done ?_
        go_wp2_with fail
        refine wp_region_vs [isV (v32 a7), isV (v32 a4), isV (v32 (rotr a4 6)), isV (v32 a4), isV (v32 (rotr a4 11)), isV (v32 (rotr a4 6 ^^^ rotr a4 11)), isV (v32 a4), isV (v32 (rotr a4 25)), isV (v32 ((rotr a4 6 ^^^ rotr a4 11) ^^^ rotr a4 25)), isV (v32 (a7 + ((rotr a4 6 ^^^ rotr a4 11) ^^^ rotr a4 25))), isV (v32 a4), isV (v32 a5), isV (v32 (a4 &&& a5)), isV (v32 a4), isV (v32 (~~~a4)), isV (v32 a6), isV (v32 (~~~a4 &&& a6)), isV (v32 ((a4 &&& a5) ^^^ (~~~a4 &&& a6))), isV (v32 ((a7 + ((rotr a4 6 ^^^ rotr a4 11) ^^^ rotr a4 25)) + ((a4 &&& a5) ^^^ (~~~a4 &&& a6)))), isV (.int .i64 (k : Int)), isV (.pointer (some ⟨7, k, Option.none⟩)), isV (v32 kk), isV (v32 (((a7 + ((rotr a4 6 ^^^ rotr a4 11) ^^^ rotr a4 25)) + ((a4 &&& a5) ^^^ (~~~a4 &&& a6))) + kk)), isV (.int .i64 (k : Int)), isV (.pointer (some ⟨w1.heap.size, k, Option.none⟩)), isV (v32 ww), isV (v32 ((((a7 + ((rotr a4 6 ^^^ rotr a4 11) ^^^ rotr a4 25)) + ((a4 &&& a5) ^^^ (~~~a4 &&& a6))) + kk) + ww)), isV (v32 ((((a7 + ((rotr a4 6 ^^^ rotr a4 11) ^^^ rotr a4 25)) + ((a4 &&& a5) ^^^ (~~~a4 &&& a6))) + kk) + ww))]
          (by kernel_rfl) (by kernel_rfl) rfl ?keep ?todo ?rest
        case keep => exact ⟨Keep.isV _, Keep.isV _, Keep.isV _, Keep.isV _, Keep.isV _, Keep.isV _, Keep.isV _, Keep.isV _, Keep.isV _, Keep.isV _, Keep.isV _, Keep.isV _, Keep.isV _, Keep.isV _, Keep.isV _, Keep.isV _, Keep.isV _, Keep.isV _, Keep.isV _, Keep.isV _, Keep.isV _, Keep.isV _, Keep.isV _, Keep.isV _, Keep.isV _, Keep.isV _, Keep.isV _, Keep.isV _, trivial⟩
        case todo =>
          refine ⟨?_, ?_, ?_, ?_, ?_, ?_, ?_, ?_, ?_, ?_, ?_, ?_, ?_, ?_, ?_, ?_, ?_, ?_, ?_, ?_, ?_, ?_, ?_, ?_, ?_, ?_, ?_, ?_, trivial⟩
          · intro ev X hT hb hk hf
            have e0 : ev (.tmp 12) = v32 a7 := hk.1
            exact OpOk.move rfl e0 ⟨rfl, Stay.refl _⟩
          · intro ev X hT hb hk hf
            have e0 : ev (.tmp 9) = v32 a4 := hk.1
            exact OpOk.move rfl e0 ⟨rfl, Stay.refl _⟩
          · intro ev X hT hb hk hf
            have e0 : ev (.tmp 43) = v32 a4 := hf.1
            refine OpOk.enters (f := 111) (args := #[v32 a4, .int .i64 ((6 : Nat) : Int)]) (W' := X) (by simp [execOp, resolve, invoke, e0, hb.1, hb.2.1, go_sem]) ((right_any a4 6 (by decide) X).mono ?_)
            rintro e _ ⟨rfl, rfl⟩
            exact ⟨_, rfl, rfl, Stay.refl _⟩
          · intro ev X hT hb hk hf
            have e0 : ev (.tmp 9) = v32 a4 := hk.1
            exact OpOk.move rfl e0 ⟨rfl, Stay.refl _⟩
          · intro ev X hT hb hk hf
            have e0 : ev (.tmp 45) = v32 a4 := hf.1
            refine OpOk.enters (f := 111) (args := #[v32 a4, .int .i64 ((11 : Nat) : Int)]) (W' := X) (by simp [execOp, resolve, invoke, e0, hb.1, hb.2.1, go_sem]) ((right_any a4 11 (by decide) X).mono ?_)
            rintro e _ ⟨rfl, rfl⟩
            exact ⟨_, rfl, rfl, Stay.refl _⟩
          · intro ev X hT hb hk hf
            have e0 : ev (.tmp 44) = v32 (rotr a4 6) := hf.1
            have e1 : ev (.tmp 46) = v32 (rotr a4 11) := hf.2.1
            exact OpOk.run (v := v32 (rotr a4 6 ^^^ rotr a4 11)) (W' := X) (by simp [execOp, e0, e1, hb.1, xor32, -UInt32.toNat_add, -UInt32.toNat_xor, -UInt32.toNat_and, -UInt32.toNat_or, -UInt32.toNat_not, go_sem]) ⟨rfl, Stay.refl _⟩
          · intro ev X hT hb hk hf
            have e0 : ev (.tmp 9) = v32 a4 := hk.1
            exact OpOk.move rfl e0 ⟨rfl, Stay.refl _⟩
          · intro ev X hT hb hk hf
            have e0 : ev (.tmp 48) = v32 a4 := hf.1
            refine OpOk.enters (f := 111) (args := #[v32 a4, .int .i64 ((25 : Nat) : Int)]) (W' := X) (by simp [execOp, resolve, invoke, e0, hb.1, hb.2.1, go_sem]) ((right_any a4 25 (by decide) X).mono ?_)
            rintro e _ ⟨rfl, rfl⟩
            exact ⟨_, rfl, rfl, Stay.refl _⟩
          · intro ev X hT hb hk hf
            have e0 : ev (.tmp 47) = v32 (rotr a4 6 ^^^ rotr a4 11) := hf.1
            have e1 : ev (.tmp 49) = v32 (rotr a4 25) := hf.2.1
            exact OpOk.run (v := v32 ((rotr a4 6 ^^^ rotr a4 11) ^^^ rotr a4 25)) (W' := X) (by simp [execOp, e0, e1, hb.1, xor32, -UInt32.toNat_add, -UInt32.toNat_xor, -UInt32.toNat_and, -UInt32.toNat_or, -UInt32.toNat_not, go_sem]) ⟨rfl, Stay.refl _⟩
          · intro ev X hT hb hk hf
            have e0 : ev (.tmp 42) = v32 a7 := hf.1
            have e1 : ev (.tmp 50) = v32 ((rotr a4 6 ^^^ rotr a4 11) ^^^ rotr a4 25) := hf.2.1
            exact OpOk.run (v := v32 (a7 + ((rotr a4 6 ^^^ rotr a4 11) ^^^ rotr a4 25))) (W' := X) (by simp [execOp, e0, e1, hb.1, add32, -UInt32.toNat_add, -UInt32.toNat_xor, -UInt32.toNat_and, -UInt32.toNat_or, -UInt32.toNat_not, go_sem]) ⟨rfl, Stay.refl _⟩
          · intro ev X hT hb hk hf
            have e0 : ev (.tmp 9) = v32 a4 := hk.1
            exact OpOk.move rfl e0 ⟨rfl, Stay.refl _⟩
          · intro ev X hT hb hk hf
            have e0 : ev (.tmp 10) = v32 a5 := hk.1
            exact OpOk.move rfl e0 ⟨rfl, Stay.refl _⟩
          · intro ev X hT hb hk hf
            have e0 : ev (.tmp 52) = v32 a4 := hf.1
            have e1 : ev (.tmp 53) = v32 a5 := hf.2.1
            exact OpOk.run (v := v32 (a4 &&& a5)) (W' := X) (by simp [execOp, e0, e1, hb.1, and32, -UInt32.toNat_add, -UInt32.toNat_xor, -UInt32.toNat_and, -UInt32.toNat_or, -UInt32.toNat_not, go_sem]) ⟨rfl, Stay.refl _⟩
          · intro ev X hT hb hk hf
            have e0 : ev (.tmp 9) = v32 a4 := hk.1
            exact OpOk.move rfl e0 ⟨rfl, Stay.refl _⟩
          · intro ev X hT hb hk hf
            have e0 : ev (.tmp 55) = v32 a4 := hf.1
            exact OpOk.run (v := v32 (~~~a4)) (W' := X) (by simp [execOp, e0, hb.1, not32, IntKind.signed, -UInt32.toNat_add, -UInt32.toNat_xor, -UInt32.toNat_and, -UInt32.toNat_or, -UInt32.toNat_not, go_sem]) ⟨rfl, Stay.refl _⟩
          · intro ev X hT hb hk hf
            have e0 : ev (.tmp 11) = v32 a6 := hk.1
            exact OpOk.move rfl e0 ⟨rfl, Stay.refl _⟩
          · intro ev X hT hb hk hf
            have e0 : ev (.tmp 56) = v32 (~~~a4) := hf.1
            have e1 : ev (.tmp 57) = v32 a6 := hf.2.1
            exact OpOk.run (v := v32 (~~~a4 &&& a6)) (W' := X) (by simp [execOp, e0, e1, hb.1, and32, -UInt32.toNat_add, -UInt32.toNat_xor, -UInt32.toNat_and, -UInt32.toNat_or, -UInt32.toNat_not, go_sem]) ⟨rfl, Stay.refl _⟩
          · intro ev X hT hb hk hf
            have e0 : ev (.tmp 54) = v32 (a4 &&& a5) := hf.1
            have e1 : ev (.tmp 58) = v32 (~~~a4 &&& a6) := hf.2.1
            exact OpOk.run (v := v32 ((a4 &&& a5) ^^^ (~~~a4 &&& a6))) (W' := X) (by simp [execOp, e0, e1, hb.1, xor32, -UInt32.toNat_add, -UInt32.toNat_xor, -UInt32.toNat_and, -UInt32.toNat_or, -UInt32.toNat_not, go_sem]) ⟨rfl, Stay.refl _⟩
          · intro ev X hT hb hk hf
            have e0 : ev (.tmp 51) = v32 (a7 + ((rotr a4 6 ^^^ rotr a4 11) ^^^ rotr a4 25)) := hf.1
            have e1 : ev (.tmp 59) = v32 ((a4 &&& a5) ^^^ (~~~a4 &&& a6)) := hf.2.1
            exact OpOk.run (v := v32 ((a7 + ((rotr a4 6 ^^^ rotr a4 11) ^^^ rotr a4 25)) + ((a4 &&& a5) ^^^ (~~~a4 &&& a6)))) (W' := X) (by simp [execOp, e0, e1, hb.1, add32, -UInt32.toNat_add, -UInt32.toNat_xor, -UInt32.toNat_and, -UInt32.toNat_or, -UInt32.toNat_not, go_sem]) ⟨rfl, Stay.refl _⟩
          · intro ev X hT hb hk hf
            have e0 : ev (.tmp 4) = .int .i64 (k : Int) := hk.1
            exact OpOk.move rfl e0 ⟨rfl, Stay.refl _⟩
          · intro ev X hT hb hk hf
            have e0 : ev (.tmp 61) = .int .i64 (k : Int) := hf.1
            exact OpOk.run (v := .pointer (some ⟨7, k, Option.none⟩)) (W' := X) (by simp [execOp, e0, hb.1, hb.2.1, hb.2.2, klt, go_sem]) ⟨rfl, Stay.refl _⟩
          · intro ev X hT hb hk hf
            have e0 : ev (.tmp 62) = .pointer (some ⟨7, k, Option.none⟩) := hf.1
            have cW := CK'.out X hT
            exact OpOk.run (v := v32 kk) (W' := X) (by simp [execOp, e0, cW, go_sem]) ⟨rfl, Stay.refl _⟩
          · intro ev X hT hb hk hf
            have e0 : ev (.tmp 60) = v32 ((a7 + ((rotr a4 6 ^^^ rotr a4 11) ^^^ rotr a4 25)) + ((a4 &&& a5) ^^^ (~~~a4 &&& a6))) := hf.1
            have e1 : ev (.tmp 63) = v32 kk := hf.2.1
            exact OpOk.run (v := v32 (((a7 + ((rotr a4 6 ^^^ rotr a4 11) ^^^ rotr a4 25)) + ((a4 &&& a5) ^^^ (~~~a4 &&& a6))) + kk)) (W' := X) (by simp [execOp, e0, e1, hb.1, add32, -UInt32.toNat_add, -UInt32.toNat_xor, -UInt32.toNat_and, -UInt32.toNat_or, -UInt32.toNat_not, go_sem]) ⟨rfl, Stay.refl _⟩
          · intro ev X hT hb hk hf
            have e0 : ev (.tmp 4) = .int .i64 (k : Int) := hk.1
            exact OpOk.move rfl e0 ⟨rfl, Stay.refl _⟩
          · intro ev X hT hb hk hf
            have e0 : ev (.tmp 2) = .pointer (some ⟨w1.heap.size, 0, Option.none⟩) := hk.1
            have e1 : ev (.tmp 65) = .int .i64 (k : Int) := hf.1
            exact OpOk.run (v := .pointer (some ⟨w1.heap.size, k, Option.none⟩)) (W' := X) (by simp [execOp, e0, e1, hb.1, hb.2.1, hb.2.2, klt, go_sem]) ⟨rfl, Stay.refl _⟩
          · intro ev X hT hb hk hf
            have e0 : ev (.tmp 66) = .pointer (some ⟨w1.heap.size, k, Option.none⟩) := hf.1
            have cW := CW'.out X hT
            exact OpOk.run (v := v32 ww) (W' := X) (by simp [execOp, e0, cW, go_sem]) ⟨rfl, Stay.refl _⟩
          · intro ev X hT hb hk hf
            have e0 : ev (.tmp 64) = v32 (((a7 + ((rotr a4 6 ^^^ rotr a4 11) ^^^ rotr a4 25)) + ((a4 &&& a5) ^^^ (~~~a4 &&& a6))) + kk) := hf.1
            have e1 : ev (.tmp 67) = v32 ww := hf.2.1
            exact OpOk.run (v := v32 ((((a7 + ((rotr a4 6 ^^^ rotr a4 11) ^^^ rotr a4 25)) + ((a4 &&& a5) ^^^ (~~~a4 &&& a6))) + kk) + ww)) (W' := X) (by simp [execOp, e0, e1, hb.1, add32, -UInt32.toNat_add, -UInt32.toNat_xor, -UInt32.toNat_and, -UInt32.toNat_or, -UInt32.toNat_not, go_sem]) ⟨rfl, Stay.refl _⟩
          · intro ev X hT hb hk hf
            have e0 : ev (.tmp 68) = v32 ((((a7 + ((rotr a4 6 ^^^ rotr a4 11) ^^^ rotr a4 25)) + ((a4 &&& a5) ^^^ (~~~a4 &&& a6))) + kk) + ww) := hf.1
            exact OpOk.assign rfl e0 ⟨rfl, Stay.refl _⟩
        case rest =>
          intro X2 hT2
          rintro _ rfl _ rfl _ rfl _ rfl _ rfl _ rfl _ rfl _ rfl _ rfl _ rfl _ rfl _ rfl _ rfl _ rfl _ rfl _ rfl _ rfl _ rfl _ rfl _ rfl _ rfl _ rfl _ rfl _ rfl _ rfl _ rfl _ rfl _ rfl
          have HT2 := hide (Stay.trans HT1.out hT2)
          clear hT2 CK' CW' HT1
          have HP := hide (show pOf ⟨a0, a1, a2, a3, a4, a5, a6, a7⟩ kk ww = ((((a7 + ((rotr a4 6 ^^^ rotr a4 11) ^^^ rotr a4 25)) + ((a4 &&& a5) ^^^ (~~~a4 &&& a6))) + kk) + ww) from rfl)
          generalize ((((a7 + ((rotr a4 6 ^^^ rotr a4 11) ^^^ rotr a4 25)) + ((a4 &&& a5) ^^^ (~~~a4 &&& a6))) + kk) + ww) = pp at *
          have hw3 := HW.out.below HT2.out
          have Hb3 := hide (on_blk_mul hw3)
          have HW3 := hide hw3
          have HS3 := hide (HS.out.trans (Str.below HT2.out))
          clear hw3 HW HS HT2
          go_wp2
          refine Rest.done ?_
          go_wp2_with fail
          refine (right_any a0 2 (by decide) _).mono ?_
          rintro e _ ⟨rfl, rfl⟩
          go_wp2_with fail
          refine (right_any a0 13 (by decide) _).mono ?_
          rintro e _ ⟨rfl, rfl⟩
          go_wp2_with fail
          refine (right_any a0 22 (by decide) _).mono ?_
          rintro e _ ⟨rfl, rfl⟩
          have HSz : Hid ((stc ⟨a0, a1, a2, a3, a4, a5, a6, a7⟩).size = 8) := hide rfl
          go_wp2_with (refine wpList_store8 rfl _ _ _ rfl w2.heap.size _ _ _ _ _ _ _ _ rfl rfl _ _ Hb3.out hs8 HSz.out ⟨rfl, rfl, rfl, rfl, rfl, rfl, rfl, rfl⟩ ?_)
          have h9 := HW3.out.setRow (stc (rnd ⟨a0, a1, a2, a3, a4, a5, a6, a7⟩ kk ww))
          rw [← HN.out] at h9
          have e9 : stc (runR s (sched left 64) (k + 1)) = #[v32 (pp + qOf ⟨a0, a1, a2, a3, a4, a5, a6, a7⟩), v32 a0, v32 a1, v32 a2, v32 (a3 + pp), v32 a4, v32 a5, v32 a6] := by
            rw [HN.out, ← HP.out]
            rfl
          refine ⟨⟨k + 1, by omega, by simp, setRow_congr h9 (e9.trans (arr8 (congrArg (Value.int _) ?_) (congrArg (Value.int _) ?_))), HS3.out.setRow _ _⟩, by simp [intOf]; omega⟩
          · simp only [xor32, and32, qOf, big0, UInt32.toNat_add, IntKind.wrap_u32]
            omega
          · simp only [UInt32.toNat_add, IntKind.wrap_u32]
            omega
    · obtain rfl : k = 64 := by omega
      have HC := hide (show compress s left = addS s (runR s (sched left 64) 64) from rfl)
      generalize runR s (sched left 64) 64 = t at *
      have hb3 := on_blk_mul hw
      have h9 : (blk p (.cells (cellsG (mixL s t 0) left n).toArray 147 (0, 0)) * (blk w2.heap.size (.cells (stc t) 145 (0, 0)) * (blk w1.heap.size (.cells Wv 148 (0, 0)) * F))).on wr := by
        have e0 : (cellsG (mixL s t 0) left n).toArray = cells s left n := rfl
        rw [e0]
        refine (SP.le_of_eq ?_).on hw
        ac_rfl
      generalize hF2 : (blk w2.heap.size (.cells (stc t) 145 (0, 0)) * (blk w1.heap.size (.cells Wv 148 (0, 0)) * F)) = F2 at *
      have HF2 := hide hF2
      have H9 := hide h9
      have HS := hide hstr
      have Hg8 : Hid ((Tryd.prog.info? 145).map (·.size) = some (stc t).size) := hide hs8
      have Hb3 := hide hb3
      have HY : Hid (∀ k, k < 8 → ∃ x y, (stc t)[k]? = some (v32 y) ∧ (mixL s t k)[k]? = some x ∧ (mixL s t k).set k (x + y) = mixL s t (k + 1)) := hide fun k hk => by
        obtain ⟨x, y, h1, h2, h3⟩ := mixL_next s t k hk
        exact ⟨x, y, wv_get _ _ h1, h2, h3⟩
      have HZ : Hid ((stc t).size = 8) := hide rfl
      generalize stc t = T8 at *
      clear hw hstr hF2 h9 hb3 H3 HS3 hk hlt hs8 hz8 hzR
      go_wp2_with (refine wpList_load_row rfl _ _ rfl w2.heap.size rfl _ T8 _ _ Hb3.out hu8 rfl Hg8.out ?_)
      go_loopw [104] (fun i wr => ∃ k : Nat, k ≤ 8 ∧ i = .int .i64 k ∧ (blk p (.cells (cellsG (mixL s t k) left n).toArray 147 (0, 0)) * F2).on wr ∧ Str w wr) (fun i _ => 8 - (intOf i).toNat)
      case atStart => exact ⟨0, Nat.zero_le _, rfl, H9.out, HS.out⟩
      case round =>
        obtain ⟨k, hk, rfl, hw, hstr⟩ := hrel
        by_cases hlt : k < 8
        · obtain ⟨x, y, h1, h2, h3⟩ := HY.out k hlt
          have HN := hide h3
          have HW := hide hw
          have HSt := hide hstr
          have CX : Hid (∀ X, Stay wr X → X.cell? ⟨p, k, Option.none⟩ = some (v32 x)) := hide fun X hT => cell_of_blk (hw.below hT) k (cellsG_get _ _ _ _ h2)
          have k8 : (k : Int) < 8 := by omega
          have hix := run_index_one (P := Tryd.prog) wr 145 70 8 T8 k (v32 y) .u32 hu8 Tryd.underlying70 (by kernel_rfl) hlt h1
          clear h1 h2 h3 hw hstr H9 HS
          go_wp2_with fail
          refine wp_region_tail 10 [isV (.pointer (some ⟨p, 0, Option.none⟩)), isV (.int .i64 (k : Int)), isV (.pointer (some ⟨p, 0, Option.none⟩)), isV (.pointer (some ⟨p, 0, Option.none⟩)), isV (.pointer (some ⟨p, k, Option.none⟩)), isV (v32 x), isV (v32 y), isV (v32 (x + y)), isV (.pointer (some ⟨p, 0, Option.none⟩)), isV (.pointer (some ⟨p, 0, Option.none⟩))]
            (by simp only [List.take_succ_cons, List.take_zero]; rfl) (by simp only [List.drop_succ_cons, List.drop_zero]; rfl) (by kernel_rfl) (by kernel_rfl) (by kernel_rfl) (by decide) rfl ?keep ?todo ?rest
          case keep => exact ⟨Keep.isV _, Keep.isV _, Keep.isV _, Keep.isV _, Keep.isV _, Keep.isV _, Keep.isV _, Keep.isV _, Keep.isV _, Keep.isV _, trivial⟩
          case todo =>
            refine ⟨?_, ?_, ?_, ?_, ?_, ?_, ?_, ?_, ?_, ?_, trivial⟩
            · intro ev X hT hb hk hf
              have e0 : ev (.tmp 0) = .pointer (some ⟨p, 0, Option.none⟩) := hk.1
              exact OpOk.move rfl e0 ⟨rfl, Stay.refl _⟩
            · intro ev X hT hb hk hf
              have e0 : ev (.tmp 15) = .int .i64 (k : Int) := hk.1
              exact OpOk.move rfl e0 ⟨rfl, Stay.refl _⟩
            · intro ev X hT hb hk hf
              have e0 : ev (.tmp 108) = .pointer (some ⟨p, 0, Option.none⟩) := hf.1
              exact OpOk.run (v := .pointer (some ⟨p, 0, Option.none⟩)) (W' := X) (by simp [execOp, e0, hb.1, go_sem]) ⟨rfl, Stay.refl _⟩
            · intro ev X hT hb hk hf
              have e0 : ev (.tmp 110) = .pointer (some ⟨p, 0, Option.none⟩) := hf.1
              exact OpOk.run (v := .pointer (some ⟨p, 0, Option.none⟩)) (W' := X) (by simp [execOp, e0, hb.1, go_sem]) ⟨rfl, Stay.refl _⟩
            · intro ev X hT hb hk hf
              have e0 : ev (.tmp 111) = .pointer (some ⟨p, 0, Option.none⟩) := hf.1
              have e1 : ev (.tmp 109) = .int .i64 (k : Int) := hf.2.1
              exact OpOk.run (v := .pointer (some ⟨p, k, Option.none⟩)) (W' := X) (by simp [execOp, e0, e1, hb.1, k8, go_sem]) ⟨rfl, Stay.refl _⟩
            · intro ev X hT hb hk hf
              have e0 : ev (.tmp 112) = .pointer (some ⟨p, k, Option.none⟩) := hf.1
              have cW := CX.out X hT
              exact OpOk.run (v := v32 x) (W' := X) (by simp [execOp, e0, cW, go_sem]) ⟨rfl, Stay.refl _⟩
            · intro ev X hT hb hk hf
              have e0 : ev (.tmp 16) = v32 y := hk.1
              exact OpOk.move rfl e0 ⟨rfl, Stay.refl _⟩
            · intro ev X hT hb hk hf
              have e0 : ev (.tmp 113) = v32 x := hf.1
              have e1 : ev (.tmp 114) = v32 y := hf.2.1
              exact OpOk.run (v := v32 (x + y)) (W' := X) (by simp [execOp, e0, e1, hb.1, add32, -UInt32.toNat_add, -UInt32.toNat_xor, -UInt32.toNat_and, -UInt32.toNat_or, -UInt32.toNat_not, go_sem]) ⟨rfl, Stay.refl _⟩
            · intro ev X hT hb hk hf
              have e0 : ev (.tmp 108) = .pointer (some ⟨p, 0, Option.none⟩) := hf.1
              exact OpOk.run (v := .pointer (some ⟨p, 0, Option.none⟩)) (W' := X) (by simp [execOp, e0, hb.1, go_sem]) ⟨rfl, Stay.refl _⟩
            · intro ev X hT hb hk hf
              have e0 : ev (.tmp 116) = .pointer (some ⟨p, 0, Option.none⟩) := hf.1
              exact OpOk.run (v := .pointer (some ⟨p, 0, Option.none⟩)) (W' := X) (by simp [execOp, e0, hb.1, go_sem]) ⟨rfl, Stay.refl _⟩
          case rest =>
            intro X hT
            rintro _ rfl _ rfl _ rfl _ rfl _ rfl _ rfl _ rfl _ rfl _ rfl _ rfl
            have hw2 := HW.out.below hT
            have cx := CX.out X hT
            have fr := frozen_of_row _ p k _ _ (on_blk_mul hw2)
            have h9 := hw2.setCell (i := k) (v32 (x + y))
            rw [cellsG_set _ _ _ _ _ (by rw [mixL_len _ _ _ hk]; exact hlt), HN.out] at h9
            have H9 := hide h9
            have HS2 := hide (HSt.out.trans (Str.below hT))
            clear hT hw2 h9 CX HW HSt HN hix
            go_wp2
            refine Rest.done ?_
            go_wp2_with fail
            exact ⟨⟨k + 1, by omega, by simp, setCell_congr H9.out (congrArg (Value.int _) (by first | rfl | (simp only [UInt32.toNat_add, IntKind.wrap_u32]; omega))), HS2.out.setCell _ _⟩, by simp [intOf]; omega⟩
        · obtain rfl : k = 8 := by omega
          have e8 : mixL s t 8 = (addS s t).list := by simp [mixL, St.list]
          rw [e8, cellsG_eq, ← HC.out, ← HF2.out] at hw
          have hfin : (blk p (.cells (cells (compress s left) left n) 147 (0, 0)) * F).on wr := SP.on_mul_cut hw
          have HFin := hide hfin
          have HSt := hide hstr
          clear hw hstr H9 HS hfin
          go_wp2_with fail
          go_end0
          exact ⟨⟨_, rfl⟩, HFin.out, HSt.out⟩
end Sha32
end Go.Proofs.YtgkofpfjbjnhfaaDoor
