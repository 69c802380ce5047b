/- LAID TOGETHER: Dv4, Dv5, Dv6. -/
import Derived.Test.YtgmpmlneoiagdaaGreatDoorGDvA
import Derived.Test.YtgmpmlneoiagdaaGreatDoorGBase2
import Derived.Test.YtgmpmlneoiagdaaGreatDoorGBase
import Derived.Test.YtgmpmlneoiagdaaGreatDoorGDs
/- device: what it becomes; object: whether it is complete. -/
namespace Go.Proofs.YtgmpmlneoiagdaaGreatDoor
open Go.ChangeShapes Go.WideShapes Go.ChangeAt Go.RowKit
set_option linter.unusedVariables false
set_option linter.unusedSimpArgs false

/-- a device's cells -/
def dvV (dec fl : Value) (st : Nat) (img mach : Value) (ticks : Nat) : Array Value := ([dec, fl] ++ (limC 0 0).toList ++ [Value.int .i64 (st : Nat), img, mach, .int .i64 (ticks : Nat)]).toArray
abbrev pnil : Value := .pointer Option.none
theorem dvV_size (dec fl : Value) (st : Nat) (img mach : Value) (ticks : Nat) : (dvV dec fl st img mach ticks).size = 42 := by simp [dvV, limC]
theorem dvV_info (dec fl : Value) (st : Nat) (img mach : Value) (ticks : Nat) : (Tryz.prog.info? 67).map (·.size) = some (dvV dec fl st img mach ticks).size := by rw [dvV_size]; kernel_rfl
theorem dvV_get1 (dec fl : Value) (st : Nat) (img mach : Value) (ticks : Nat) : (dvV dec fl st img mach ticks)[1]? = some fl := by simp [dvV]
theorem dvV_get0 (dec fl : Value) (st : Nat) (img mach : Value) (ticks : Nat) : (dvV dec fl st img mach ticks)[0]? = some dec := by simp [dvV]
theorem dvV_get38 (dec fl : Value) (st : Nat) (img mach : Value) (ticks : Nat) : (dvV dec fl st img mach ticks)[38]? = some (.int .i64 (st : Nat)) := by simp [dvV, limC]
theorem dvV_get39 (dec fl : Value) (st : Nat) (img mach : Value) (ticks : Nat) : (dvV dec fl st img mach ticks)[39]? = some img := by simp [dvV, limC]
theorem dvV_get40 (dec fl : Value) (st : Nat) (img mach : Value) (ticks : Nat) : (dvV dec fl st img mach ticks)[40]? = some mach := by simp [dvV, limC]
theorem dvV_get41 (dec fl : Value) (st : Nat) (img mach : Value) (ticks : Nat) : (dvV dec fl st img mach ticks)[41]? = some (.int .i64 (ticks : Nat)) := by simp [dvV, limC]
theorem dvV_lim (dec fl : Value) (st : Nat) (img mach : Value) (ticks : Nat) (j : Nat) (v : Value) (h : (limC 0 0)[j]? = some v) : (dvV dec fl st img mach ticks)[2 + j]? = some v := by
  have hj : j < (limC 0 0).toList.length := by have := (Array.getElem?_eq_some_iff.1 h).1; simpa using this
  unfold dvV
  rw [List.getElem?_toArray, List.append_assoc, List.getElem?_append_right (by simp), show 2 + j - [dec, fl].length = j by simp, List.getElem?_append_left hj]
  simpa using h
theorem dvV_set1 (dec fl f2 : Value) (st : Nat) (img mach : Value) (ticks : Nat) : (dvV dec fl st img mach ticks).setIfInBounds 1 f2 = dvV dec f2 st img mach ticks := by simp [dvV]
theorem dvV_set41 (dec fl : Value) (st : Nat) (img mach : Value) (ticks t2 : Nat) : (dvV dec fl st img mach ticks).setIfInBounds 41 (.int .i64 (t2 : Nat)) = dvV dec fl st img mach t2 := by simp [dvV, limC]
theorem dvV_setL (dec fl : Value) (st : Nat) (img mach : Value) (ticks : Nat) : (dvV dec fl st img mach ticks).toList.take 2 ++ (limC 0 0).toList ++ (dvV dec fl st img mach ticks).toList.drop (2 + (limC 0 0).toList.length) = (dvV dec fl st img mach ticks).toList := by
  simp [dvV, limC]
theorem dvV_one {dec fl : Value} (st : Nat) {img mach : Value} (ticks : Nat) (h1 : dec.oneCell' = true) (h2 : fl.oneCell' = true) (h3 : img.oneCell' = true) (h4 : mach.oneCell' = true) : (dvV dec fl st img mach ticks).all (·.oneCell') = true := by
  unfold dvV limC
  simp [vbs, h1, h2, h3, h4]
  simp [Value.oneCell']
theorem OpOk.store_cellD {P : Program} {o : Oper} {ev : Operand → Value} {W : World} {R : Value → World → Prop} {F : SP} (ty : TypeId) (x y : Operand) (ho : o.op = .store ty x y)
    (g i : Nat) (hx : ev x = .pointer (some ⟨g, i, Option.none⟩)) (v : Value) (hy : ev y = v) (h1 : v.cells = #[v]) (t : TypeId) (old : Array Value) (hi : i < old.size) (hs : (P.info? ty).map (·.size) = some 1) (hv : v.oneCell' = true) (H : (blk g (.cells old t (0, 0)) * F).on W)
    (h : (blk g (.cells (old.setIfInBounds i v) t (0, 0)) * F).on (W.setRow g (old.setIfInBounds i v)) → R undef (W.setRow g (old.setIfInBounds i v))) : OpOk P o ev W R := by
  have hr := run_storeCells_at (P := P) g i t [v] 0 old W (on_blk_mul H) (by simp; omega) (by
    intro u hu
    simp at hu
    rw [hu]
    exact hv)
  have e : (old.toList.take i ++ [v] ++ old.toList.drop (i + 1)).toArray = old.setIfInBounds i v := by
    apply Array.ext'
    rw [Array.toList_setIfInBounds]
    simp [List.set_eq_take_append_cons_drop, hi]
  simp only [Nat.add_zero, List.length_singleton, e] at hr
  have hsv : (storeVar ty ⟨g, i, Option.none⟩ v).run P W = .ok () (W.setRow g (old.setIfInBounds i v)) := by
    cases hq : P.info? ty with
    | none => simp [hq] at hs
    | some k =>
      have hz : k.size = 1 := by simpa [hq] using hs
      simp [storeVar, sizeOf, typeInfo, hq, h1, hz, hr]
  unfold OpOk execOp
  simp only [ho, hx, hy, Instr.storeAt, Instr.sureAddr, Sem.run_bind, Sem.run_pure, Result.andThen_ok, hsv]
  exact h (H.setRow _)
theorem OpOk.store_part {P : Program} {o : Oper} {ev : Operand → Value} {W : World} {R : Value → World → Prop} {F : SP} (ty : TypeId) (x y : Operand) (ho : o.op = .store ty x y)
    (g off : Nat) (cells : List Value) (hx : ev x = .pointer (some ⟨g, off, Option.none⟩)) (hy : (ev y).cells = cells.toArray) (t : TypeId) (old : Array Value) (H : (blk g (.cells old t (0, 0)) * F).on W) (hi : (P.info? ty).map (·.size) = some cells.length)
    (hl : off + cells.length ≤ old.size) (h1 : ∀ v ∈ cells, v.oneCell' = true) (new : Array Value) (hn : old.toList.take off ++ cells ++ old.toList.drop (off + cells.length) = new.toList)
    (h : (blk g (.cells new t (0, 0)) * F).on (W.setRow g new) → R undef (W.setRow g new)) : OpOk P o ev W R := by
  have hs := run_storeCells_at (P := P) g off t cells 0 old W (on_blk_mul H) (by simpa using hl) h1
  simp only [Nat.add_zero, hn, Array.toArray_toList] at hs
  have hv : (storeVar ty ⟨g, off, Option.none⟩ (ev y)).run P W = .ok () (W.setRow g new) := by
    cases hq : P.info? ty with
    | none => simp [hq] at hi
    | some i =>
      have hz : cells.length = i.size := by simp [hq] at hi; omega
      simp [storeVar, sizeOf, typeInfo, hq, hy, hz, hs]
  unfold OpOk execOp
  simp only [ho, hx, Instr.storeAt, Instr.sureAddr, Sem.run_bind, Sem.run_pure, Result.andThen_ok, hv]
  exact h (H.setRow new)

set_option maxRecDepth 100000 in
set_option maxHeartbeats 16000000 in
theorem become_any (d p : Nat) (dec0 img0 mach0 dec img mach : Value) (st0 t0 st tk : Nat) (h1 : dec.oneCell' = true) (h3 : img.oneCell' = true) (h4 : mach.oneCell' = true) (F : SP) (w0 : World) (h : (blk d (.cells (dvV dec0 (fptr p) st0 img0 mach0 t0) 67 (0, 0)) * F).on w0) :
    Calls Tryz.prog 47 #[.pointer (some ⟨d, 0, Option.none⟩), .agg (dvV dec pnil st img mach tk)] w0 fun e w' => (∃ v, e = .returned v) ∧ (blk d (.cells (dvV dec (fptr p) st img mach tk) 67 (0, 0)) * F).on w' ∧ Str w0 w' := by
  have hud := Tryz.underlying67
  have hul := Tryz.underlying41
  have H1 := hide (h.alloc (.cells (dvV dec pnil st img mach tk) 67))
  have S1 := hide ((Str.refl w0).alloc (.cells (dvV dec pnil st img mach tk) 67))
  have Hi := hide (dvV_info dec (fptr p) st img mach tk)
  have Ho := hide (dvV_one (dec := dec) (fl := fptr p) st (img := img) (mach := mach) tk h1 rfl h3 h4)
  have Hz := hide (show (dvV dec0 (fptr p) st0 img0 mach0 t0).size = (dvV dec (fptr p) st img mach tk).size by rw [dvV_size, dvV_size])
  clear h
  go_enter Tryz.func47, Tryz.ntmps47
  go_wp2_with fail
  generalize w0.alloc (.cells (dvV dec pnil st img mach tk) 67) = w at *
  generalize w0.heap.size = g at *
  refine Multi2.wp_region_multi [9, 11] [] [9, 11] [isV (.pointer (some ⟨d, 0, Option.none⟩)), isV (.pointer (some ⟨d, 0, Option.none⟩)), isV (.pointer (some ⟨d, 1, Option.none⟩)), isV (fptr p), isV (.pointer (some ⟨d, 0, Option.none⟩)), isV (.pointer (some ⟨d, 0, Option.none⟩)), isV (.pointer (some ⟨d, 2, Option.none⟩)), isV (.agg (limC 0 0)), isV (.pointer (some ⟨g, 1, Option.none⟩)), (fun _ _ => True), isV (.pointer (some ⟨g, 2, Option.none⟩)), (fun _ _ => True)]
    (by kernel_rfl) (by kernel_rfl) (by kernel_rfl) ⟨rfl, rfl, trivial⟩ (fun f sv X => ((blk g (.cells (if f 9 = true then (dvV dec (fptr p) st img mach tk) else (dvV dec pnil st img mach tk)) 67 (0, 0)) * (blk d (.cells (dvV dec0 (fptr p) st0 img0 mach0 t0) 67 (0, 0)) * F)).on X ∧ Str w X)) (fun _ => ⟨by
      rw [if_neg (by decide)]
      exact SP.on.drew H1.out, Str.drew (Str.refl w)⟩) (fun f s a b h st => ⟨h.1.below st, h.2.trans (Str.below st)⟩) (fun f g2 s2 t X h h9 hI => by
      have e9 := h 9 rfl
      show ((blk g (.cells (if g2 9 = true then (dvV dec (fptr p) st img mach tk) else (dvV dec pnil st img mach tk)) 67 (0, 0)) * (blk d (.cells (dvV dec0 (fptr p) st0 img0 mach0 t0) 67 (0, 0)) * F)).on X ∧ Str w X)
      rw [← e9]
      exact hI) ?keep ?todo ?rest (by decide) (by decide)
  case keep => exact ⟨Keep.isV _, Keep.isV _, Keep.isV _, Keep.isV _, Keep.isV _, Keep.isV _, Keep.isV _, Keep.isV _, Keep.isV _, fun _ _ _ h _ => h, Keep.isV _, fun _ _ _ h _ => h, trivial⟩
  case todo =>
    refine ⟨?_, ?_, ?_, ?_, ?_, ?_, ?_, ?_, ?_, ?_, ?_, ?_, trivial⟩
    · intro f hf0 hw hn ev X hT hb hk hf
      have e0 : ev (.tmp 0) = .pointer (some ⟨d, 0, Option.none⟩) := by have h9 := hk.1; rw [if_pos (by kernel_rfl)] at h9; exact h9
      exact OpOk.move rfl e0 (Multi2.ended_stay rfl rfl (Stay.refl _))
    · intro f hf0 hw hn ev X hT hb hk hf
      have e0 : ev (.tmp 4) = .pointer (some ⟨d, 0, Option.none⟩) := hf.1
      exact OpOk.run (v := .pointer (some ⟨d, 0, Option.none⟩)) (W' := X) (by simp [execOp, e0, hb.1, go_sem]) (Multi2.ended_stay rfl rfl (Stay.refl _))
    · intro f hf0 hw hn ev X hT hb hk hf
      have e0 : ev (.tmp 5) = .pointer (some ⟨d, 0, Option.none⟩) := hf.1
      exact OpOk.run (v := .pointer (some ⟨d, 1, Option.none⟩)) (W' := X) (by simp [execOp, e0, hud, go_sem]) (Multi2.ended_stay rfl rfl (Stay.refl _))
    · intro f hf0 hw hn ev X hT hb hk hf
      have e0 : ev (.tmp 6) = .pointer (some ⟨d, 1, Option.none⟩) := hf.1
      have cW : X.cell? ⟨d, 1, Option.none⟩ = some (fptr p) := by rw [cell_of_row _ _ 1 _ _ _ (on_blk_mul hT.1.right)]; exact dvV_get1 _ _ _ _ _ _
      exact OpOk.run (v := fptr p) (W' := X) (by simp [execOp, e0, cW, go_sem]) (Multi2.ended_stay rfl rfl (Stay.refl _))
    · intro f hf0 hw hn ev X hT hb hk hf
      have e0 : ev (.tmp 0) = .pointer (some ⟨d, 0, Option.none⟩) := by have h9 := hk.1; rw [if_pos (by kernel_rfl)] at h9; exact h9
      exact OpOk.move rfl e0 (Multi2.ended_stay rfl rfl (Stay.refl _))
    · intro f hf0 hw hn ev X hT hb hk hf
      have e0 : ev (.tmp 8) = .pointer (some ⟨d, 0, Option.none⟩) := hf.1
      exact OpOk.run (v := .pointer (some ⟨d, 0, Option.none⟩)) (W' := X) (by simp [execOp, e0, hb.1, go_sem]) (Multi2.ended_stay rfl rfl (Stay.refl _))
    · intro f hf0 hw hn ev X hT hb hk hf
      have e0 : ev (.tmp 9) = .pointer (some ⟨d, 0, Option.none⟩) := hf.1
      exact OpOk.run (v := .pointer (some ⟨d, 2, Option.none⟩)) (W' := X) (by simp [execOp, e0, hud, go_sem]) (Multi2.ended_stay rfl rfl (Stay.refl _))
    · intro f hf0 hw hn ev X hT hb hk hf
      have e0 : ev (.tmp 10) = .pointer (some ⟨d, 2, Option.none⟩) := hf.1
      exact OpOk.load_part _ _ rfl d 2 e0 (limC 0 0) _ (fun j v hj => by rw [cell_of_row _ _ _ _ _ _ (on_blk_mul hT.1.right)]; exact dvV_lim _ _ _ _ _ _ j v hj) hul rfl (limC_info 0 0) (Multi2.ended_stay rfl rfl (Stay.refl _))
    · intro f hf0 hw hn ev X hT hb hk hf
      have e0 : ev (.tmp 3) = .pointer (some ⟨g, 0, Option.none⟩) := by have h9 := hk.1; rw [if_pos (by kernel_rfl)] at h9; exact h9
      exact OpOk.run (v := .pointer (some ⟨g, 1, Option.none⟩)) (W' := X) (by simp [execOp, e0, hud, go_sem]) (Multi2.ended_stay rfl rfl (Stay.refl _))
    · intro f hf0 hw hn ev X hT hb hk hf
      have e0 : ev (.tmp 12) = .pointer (some ⟨g, 1, Option.none⟩) := hf.1
      have e1 : ev (.tmp 7) = fptr p := hf.2.1
      have hX := hT.1
      rw [hf0, if_neg (by decide)] at hX
      refine OpOk.store_cellD _ _ _ rfl g 1 e0 (fptr p) e1 rfl _ (dvV dec pnil st img mach tk) (by rw [dvV_size]; decide) (by kernel_rfl) rfl hX (fun h3 => ?_)
      rw [dvV_set1] at h3 ⊢
      exact Multi2.ended_turn rfl trivial ⟨by
        show (blk g (.cells (if true = true then (dvV dec (fptr p) st img mach tk) else (dvV dec pnil st img mach tk)) 67 (0, 0)) * _).on _
        rw [if_pos rfl]
        exact h3, hT.2.setRow _ _⟩ (Multi2.free_keep (by
          intro P hP
          simp only [List.mem_cons, List.not_mem_nil, or_false] at hP
          rcases hP with rfl | rfl | rfl | rfl | rfl | rfl | rfl | rfl | rfl | rfl | rfl | rfl <;> exact fun _ _ _ h => h) _ _)
    · intro f hf0 hw hn ev X hT hb hk hf
      have e0 : ev (.tmp 3) = .pointer (some ⟨g, 0, Option.none⟩) := by have h9 := hk.1; rw [if_pos (by kernel_rfl)] at h9; exact h9
      exact OpOk.run (v := .pointer (some ⟨g, 2, Option.none⟩)) (W' := X) (by simp [execOp, e0, hud, go_sem]) (Multi2.ended_stay rfl rfl (Stay.refl _))
    · intro f hf0 hw hn ev X hT hb hk hf
      have e0 : ev (.tmp 13) = .pointer (some ⟨g, 2, Option.none⟩) := hf.1
      have e1 : ev (.tmp 11) = .agg (limC 0 0) := hf.2.1
      have f9 : f 9 = true := hw 9 (by kernel_rfl)
      have hX := hT.1
      rw [f9, if_pos rfl] at hX
      refine OpOk.store_part _ _ _ rfl g 2 (limC 0 0).toList e0 (by rw [e1]; rfl) _ (dvV dec (fptr p) st img mach tk) hX (limC_info 0 0) (by rw [dvV_size]; decide) (fun v hv => (Array.all_eq_true_iff_forall_mem.1 (limC_one 0 0)) v (by simpa using hv)) (dvV dec (fptr p) st img mach tk) (dvV_setL _ _ _ _ _ _) (fun h3 => ?_)
      exact Multi2.ended_turn rfl trivial ⟨by
        show (blk g (.cells (if f 9 = true then (dvV dec (fptr p) st img mach tk) else (dvV dec pnil st img mach tk)) 67 (0, 0)) * _).on _
        rw [f9, if_pos rfl]
        exact h3, hT.2.setRow _ _⟩ (Multi2.free_keep (by
          intro P hP
          simp only [List.mem_cons, List.not_mem_nil, or_false] at hP
          rcases hP with rfl | rfl | rfl | rfl | rfl | rfl | rfl | rfl | rfl | rfl | rfl | rfl <;> exact fun _ _ _ h => h) _ _)
  case rest =>
    intro X sv hI
    rintro _ ⟨-, rfl⟩ _ ⟨-, rfl⟩ _ ⟨-, rfl⟩ _ ⟨-, rfl⟩ _ ⟨-, rfl⟩ _ ⟨-, rfl⟩ _ ⟨-, rfl⟩ _ ⟨-, rfl⟩ _ ⟨-, rfl⟩ _ - _ ⟨-, rfl⟩ _ -
    have hI : ((blk g (.cells (if true = true then (dvV dec (fptr p) st img mach tk) else (dvV dec pnil st img mach tk)) 67 (0, 0)) * (blk d (.cells (dvV dec0 (fptr p) st0 img0 mach0 t0) 67 (0, 0)) * F)).on X ∧ Str w X) := hI
    have h2 := hI.1
    rw [if_pos rfl] at h2
    have g1 := hide (on_blk_mul h2)
    have h5 := h2.right
    have gD := hide (on_blk_mul h5)
    have H6 := hide (h5.setRow (dvV dec (fptr p) st img mach tk))
    have S6 := hide ((S1.out.trans hI.2).setRow d (dvV dec (fptr p) st img mach tk))
    clear hI h2 h5
    go_wp2
    refine Rest.done ?_
    go_wp2_with (first
      | (refine wpList_load_row rfl _ _ rfl g rfl _ (dvV dec (fptr p) st img mach tk) _ _ g1.out hud rfl Hi.out ?_)
      | (refine wpList_store_row rfl _ _ _ rfl d (dvV dec (fptr p) st img mach tk) rfl rfl _ _ gD.out Hi.out Hz.out Ho.out ?_))
    go_end0
    exact ⟨⟨_, rfl⟩, H6.out, S6.out⟩

set_option maxRecDepth 100000 in
set_option maxHeartbeats 16000000 in
theorem complete_no (p q : Nat) (F : SP) (w : World) (h : (blk p (.cells (mK q) 127 (0, 0)) * F).on w) :
    Calls Tryz.prog 68 #[.pointer (some ⟨p, 0, Option.none⟩)] w fun e w' => e = .returned (.bool false) ∧ Below w.heap.size w w' := by
  have H := hide h
  clear h
  go_enter Tryz.func68, Tryz.ntmps68
  go_wp2_with fail
  refine wp_region_vs [isV (.pointer (some ⟨p, 0, Option.none⟩)), isV (.bool false), isV (.bool true), isV (.bool true), isV (undef), isV (undef), isV (undef), isV (undef), isV (undef), isV (undef), isV (undef), isV (undef), isV (undef), isV (undef), isV (undef), isV (.bool true)]
    (by kernel_rfl) (by kernel_rfl) rfl ?keep ?todo ?rest
  case keep => exact ⟨Keep.isV _, Keep.isV _, Keep.isV _, Keep.isV _, Keep.isV _, Keep.isV _, Keep.isV _, Keep.isV _, Keep.isV _, Keep.isV _, Keep.isV _, Keep.isV _, Keep.isV _, Keep.isV _, Keep.isV _, Keep.isV _, trivial⟩
  case todo =>
    refine ⟨?_, ?_, ?_, ?_, ?_, ?_, ?_, ?_, ?_, ?_, ?_, ?_, ?_, ?_, ?_, ?_, trivial⟩
    · intro ev X hT hb hk hf
      have e0 : ev (.tmp 0) = .pointer (some ⟨p, 0, Option.none⟩) := hk.1
      exact OpOk.move rfl e0 ⟨rfl, Stay.refl _⟩
    · intro ev X hT hb hk hf
      have e0 : ev (.tmp 5) = .pointer (some ⟨p, 0, Option.none⟩) := hf.1
      refine OpOk.enters (f := 79) (args := #[.pointer (some ⟨p, 0, Option.none⟩)]) (W' := X) (by simp [execOp, resolve, invoke, e0, hb.1, hb.2.1, go_sem]) ((executed_no p q F X (H.out.below hT)).mono ?_)
      rintro e X2 ⟨rfl, rfl⟩
      exact ⟨_, rfl, rfl, Stay.refl _⟩
    · intro ev X hT hb hk hf
      have e0 : ev (.tmp 6) = .bool false := hf.1
      exact OpOk.run (v := .bool true) (W' := X) (by simp [execOp, e0, hb.1, go_sem]) ⟨rfl, Stay.refl _⟩
    · intro ev X hT hb hk hf
      have e0 : ev (.tmp 7) = .bool true := hf.1
      exact OpOk.move rfl e0 ⟨rfl, Stay.refl _⟩
    · exact fun ev X hT hb hk hf => ⟨true, hf.1, fun h => (nomatch h), fun _ => rfl⟩
    · exact fun ev X hT hb hk hf => ⟨true, hf.2.1, fun h => (nomatch h), fun _ => rfl⟩
    · exact fun ev X hT hb hk hf => ⟨true, hf.2.1, fun h => (nomatch h), fun _ => rfl⟩
    · exact fun ev X hT hb hk hf => ⟨true, hf.2.1, fun h => (nomatch h), fun _ => rfl⟩
    · exact fun ev X hT hb hk hf => ⟨true, hf.1, fun h => (nomatch h), fun _ => rfl⟩
    · exact fun ev X hT hb hk hf => ⟨true, hf.2.1, fun h => (nomatch h), fun _ => rfl⟩
    · exact fun ev X hT hb hk hf => ⟨true, hf.2.1, fun h => (nomatch h), fun _ => rfl⟩
    · exact fun ev X hT hb hk hf => ⟨true, hf.2.1, fun h => (nomatch h), fun _ => rfl⟩
    · exact fun ev X hT hb hk hf => ⟨true, hf.2.1, fun h => (nomatch h), fun _ => rfl⟩
    · exact fun ev X hT hb hk hf => ⟨true, hf.2.1, fun h => (nomatch h), fun _ => rfl⟩
    · exact fun ev X hT hb hk hf => ⟨true, hf.2.2.1, fun h => (nomatch h), fun _ => rfl⟩
    · intro ev X hT hb hk hf
      have e0 : ev (.tmp 8) = .bool true := hf.1
      have e1 : ev (.tmp 19) = undef := hf.2.1
      exact OpOk.run (v := .bool true) (W' := X) (by simp [execOp, e0, e1, hb, hb.1, hb.2.1, hb.2.2, go_sem]) ⟨rfl, Stay.refl _⟩
  case rest =>
    intro X hT
    rintro _ rfl _ rfl _ rfl _ rfl _ rfl _ rfl _ rfl _ rfl _ rfl _ rfl _ rfl _ rfl _ rfl _ rfl _ rfl _ rfl
    have HB := hide (show Below w.heap.size w X from hT)
    clear hT
    go_wp2
    refine Rest.done ?_
    go_wp2_with fail
    go_ret
    exact ⟨rfl, HB.out⟩
end Go.Proofs.YtgmpmlneoiagdaaGreatDoor

/- device: it stops, waits, starts, where nothing is received nor copied. -/
namespace Go.Proofs.YtgmpmlneoiagdaaGreatDoor
open Go.ChangeShapes Go.WideShapes Go.ChangeAt Go.RowKit
set_option linter.unusedVariables false
set_option linter.unusedSimpArgs false

theorem wpList_build_list {P : Program} {ops : Array Oper} {rest : List Oper} {o : Oper} {a : Act} {w : World} {Q : Exit → Act → World → Prop} (hgd : o.guard = Option.none) (T : TypeId) (l : List (Nat × Operand)) (ho : o.op = .build T l.toArray) (vs : List (Nat × Value)) (hv : (l.map fun y => (y.1, a.eval y.2)) = vs) (cs : Array Value)
    (hb : (Instr.build T vs.toArray).run P w = .ok (.agg cs) w) (hk : wpList P ops Q rest (a.put o.dst (.agg cs)) w) : wpList P ops Q (o :: rest) a w := by
  have hr : (execOp a.eval o).run P w = .ok (.value (.agg cs)) w := by
    unfold execOp
    rw [ho]
    simp only [List.map_toArray, hv]
    rw [Sem.run_bind, hb]
    rfl
  exact wpList_plain hgd fun _ hK => by
    unfold Oper.wp
    simp only [hr]
    exact hK _ _ hk
theorem dv_buildS (X : World) : (Instr.build 67 [(3, Value.int .i64 0)].toArray).run Tryz.prog X = .ok (.agg (dvV pnil pnil 0 nilV pnil 0)) X := by kernel_rfl
theorem dv_buildW (dp m : Nat) (X : World) : (Instr.build 67 [(3, Value.int .i64 1), (0, dptr dp), (5, .pointer (some ⟨m, 0, Option.none⟩))].toArray).run Tryz.prog X = .ok (.agg (dvV (dptr dp) pnil 1 nilV (.pointer (some ⟨m, 0, Option.none⟩)) 0)) X := by kernel_rfl
theorem dv_buildN (p : Nat) (X : World) : (Instr.build 67 [(1, fptr p), (2, .agg (limC 0 0))].toArray).run Tryz.prog X = .ok (.agg (dvV pnil (fptr p) 0 nilV pnil 0)) X := by kernel_rfl

set_option maxRecDepth 100000 in
set_option maxHeartbeats 16000000 in
theorem stop_any (d p : Nat) (dec0 img0 mach0 : Value) (st0 t0 : Nat) (F : SP) (w : World) (h : (blk d (.cells (dvV dec0 (fptr p) st0 img0 mach0 t0) 67 (0, 0)) * F).on w) :
    Calls Tryz.prog 42 #[.pointer (some ⟨d, 0, Option.none⟩)] w fun e w' => (∃ v, e = .returned v) ∧ (blk d (.cells (dvV pnil (fptr p) 0 nilV pnil 0) 67 (0, 0)) * F).on w' ∧ Str w w' := by
  have hB := become_any d p dec0 img0 mach0 pnil nilV pnil st0 t0 0 0 rfl rfl rfl F w h
  have hbs := dv_buildS
  clear h
  generalize dvV pnil pnil 0 nilV pnil 0 = zd at *
  go_enter Tryz.func42, Tryz.ntmps42
  go_wp2_with (refine wpList_build_list rfl 67 [(3, .const (.int .i64 0))] rfl [(3, .int .i64 0)] rfl zd (hbs _) ?_)
  refine hB.mono ?_
  clear hB
  rintro e w1 ⟨⟨_, rfl⟩, h1, hs⟩
  have H1 := hide h1
  have S1 := hide hs
  clear h1 hs
  go_wp2_with fail
  go_end0
  exact ⟨⟨_, rfl⟩, H1.out, S1.out⟩

set_option maxRecDepth 100000 in
set_option maxHeartbeats 16000000 in
theorem now_on (d p : Nat) (dec img mach : Value) (st t : Nat) (s : FlS) (F : SP) (w : World) (h : (blk d (.cells (dvV dec (fptr p) st img mach t) 67 (0, 0)) * (Flash p s * F)).on w) (hoff : s.off = false) :
    Calls Tryz.prog 24 #[.pointer (some ⟨d, 0, Option.none⟩)] w fun e w' => e = .returned (.int .i64 (st : Nat)) ∧ w = w' := by
  have hud := Tryz.underlying67
  have hg := on_blk_mul h
  have c1 : w.cell? ⟨d, 1, Option.none⟩ = some (fptr p) := by rw [cell_of_row _ _ 1 _ _ _ hg]; exact dvV_get1 _ _ _ _ _ _
  have c38 : w.cell? ⟨d, 38, Option.none⟩ = some (.int .i64 (st : Nat)) := by rw [cell_of_row _ _ 38 _ _ _ hg]; exact dvV_get38 _ _ _ _ _ _
  have hO := off_any p s F w h.right
  rw [hoff] at hO
  clear h hg
  go_enter Tryz.func24, Tryz.ntmps24
  go_wp2_with fail
  refine hO.mono ?_
  clear hO
  rintro e w1 ⟨rfl, rfl⟩
  go_wp2_with fail
  go_ret
  exact ⟨rfl, rfl⟩

set_option maxRecDepth 100000 in
set_option maxHeartbeats 16000000 in
theorem wait_calm (d p : Nat) (dec0 img0 mach0 : Value) (st0 t0 : Nat) (s : FlS) (F : SP) (w : World) (h : (blk d (.cells (dvV dec0 (fptr p) st0 img0 mach0 t0) 67 (0, 0)) * (Flash p s * F)).on w) (c : s.Calm) (hL : ∀ W, F.on W → Lens W) :
    Calls Tryz.prog 56 #[.pointer (some ⟨d, 0, Option.none⟩)] w fun e w' => (∃ v, e = .returned v) ∧ ∃ dp m q, (blk d (.cells (dvV (dptr dp) (fptr p) 1 nilV (.pointer (some ⟨m, 0, Option.none⟩)) 0) 67 (0, 0)) * (Dec dp ⟨[], 70, false, false⟩ * (blk m (.cells (mK q) 127 (0, 0)) * (Kp q p s.load.1 * (Flash p s * F))))).on w' ∧ Str w w' := by
  have hud := Tryz.underlying67
  have hul := Tryz.underlying41
  have hg := on_blk_mul h
  have c1 : w.cell? ⟨d, 1, Option.none⟩ = some (fptr p) := by rw [cell_of_row _ _ 1 _ _ _ hg]; exact dvV_get1 _ _ _ _ _ _
  have hT := tnew_any p s (blk d (.cells (dvV dec0 (fptr p) st0 img0 mach0 t0) 67 (0, 0)) * F) w (by rw [SP.mul_left_comm]; exact h) c.ok
  have hk : s.kErr = 0 := by
    unfold FlS.kErr
    rw [if_neg (by have := c.size; omega), if_neg (by have := c.err; omega)]
  have HC := hide c
  have HL := hide hL
  have hRo := hide (load_ok s)
  have hbW := dv_buildW
  clear h hg c hL
  go_enter Tryz.func56, Tryz.ntmps56
  go_wp2_with fail
  refine hT.mono ?_
  clear hT
  rintro e w1 (⟨h0, _⟩ | ⟨_, q, rfl, h1, hs1⟩)
  · exact absurd hk h0
  have H1 := hide h1
  have S1 := hide hs1
  clear h1 hs1 hk c1
  generalize hRg : s.load.1 = R at *
  have HRg := hide hRg
  clear hRg
  go_wp2_with fail
  refine wp_region_tail 16 [isV (.pointer (some ⟨q, 0, Option.none⟩)), isV (.iface 130 (.pointer (some ⟨q, 0, Option.none⟩))), isV (.pointer (some ⟨d, 0, Option.none⟩)), isV (.pointer (some ⟨d, 0, Option.none⟩)), isV (.pointer (some ⟨d, 1, Option.none⟩)), isV (fptr p), isV (.pointer (some ⟨d, 0, Option.none⟩)), isV (.pointer (some ⟨d, 0, Option.none⟩)), isV (.pointer (some ⟨d, 2, Option.none⟩)), isV (.agg (limC 0 0)), isV (.agg (limC 0 4096)), fun v X => ∃ m, v = .tuple #[.pointer (some ⟨m, 0, Option.none⟩), .int .i64 0] ∧ (blk m (.cells (mK q) 127 (0, 0)) * (Kp q p R * (Flash p s * (blk d (.cells (dvV dec0 (fptr p) st0 img0 mach0 t0) 67 (0, 0)) * F)))).on X, fun v X => ∃ m, v = .tuple #[.pointer (some ⟨m, 0, Option.none⟩), .int .i64 0] ∧ (blk m (.cells (mK q) 127 (0, 0)) * (Kp q p R * (Flash p s * (blk d (.cells (dvV dec0 (fptr p) st0 img0 mach0 t0) 67 (0, 0)) * F)))).on X, fun v X => ∃ m, v = .pointer (some ⟨m, 0, Option.none⟩) ∧ (blk m (.cells (mK q) 127 (0, 0)) * (Kp q p R * (Flash p s * (blk d (.cells (dvV dec0 (fptr p) st0 img0 mach0 t0) 67 (0, 0)) * F)))).on X, isV (.int .i64 0), fun v X => ∃ m, v = .pointer (some ⟨m, 0, Option.none⟩) ∧ (blk m (.cells (mK q) 127 (0, 0)) * (Kp q p R * (Flash p s * (blk d (.cells (dvV dec0 (fptr p) st0 img0 mach0 t0) 67 (0, 0)) * F)))).on X]
    (by simp only [List.take_succ_cons, List.take_zero]; rfl) (by simp only [List.drop_succ_cons, List.drop_zero]; rfl) (by kernel_rfl) (by kernel_rfl) (by kernel_rfl) (by decide) rfl ?keep ?todo ?rest
  case keep => exact ⟨Keep.isV _, Keep.isV _, Keep.isV _, Keep.isV _, Keep.isV _, Keep.isV _, Keep.isV _, Keep.isV _, Keep.isV _, Keep.isV _, Keep.isV _, fun _ _ _ ⟨m, h1, h2⟩ k => ⟨m, h1, h2.below k⟩, fun _ _ _ ⟨m, h1, h2⟩ k => ⟨m, h1, h2.below k⟩, fun _ _ _ ⟨m, h1, h2⟩ k => ⟨m, h1, h2.below k⟩, Keep.isV _, fun _ _ _ ⟨m, h1, h2⟩ k => ⟨m, h1, h2.below k⟩, trivial⟩
  case todo =>
    refine ⟨?_, ?_, ?_, ?_, ?_, ?_, ?_, ?_, ?_, ?_, ?_, ?_, ?_, ?_, ?_, ?_, trivial⟩
    · intro ev X hT hb hk hf
      have e0 : ev (.tmp 2) = .pointer (some ⟨q, 0, Option.none⟩) := hk.1
      exact OpOk.move rfl e0 ⟨rfl, Stay.refl _⟩
    · intro ev X hT hb hk hf
      have e0 : ev (.tmp 19) = .pointer (some ⟨q, 0, Option.none⟩) := hf.1
      exact OpOk.run (v := .iface 130 (.pointer (some ⟨q, 0, Option.none⟩))) (W' := X) (by simp [execOp, e0, go_sem]) ⟨rfl, Stay.refl _⟩
    · intro ev X hT hb hk hf
      have e0 : ev (.tmp 0) = .pointer (some ⟨d, 0, Option.none⟩) := hk.1
      exact OpOk.move rfl e0 ⟨rfl, Stay.refl _⟩
    · intro ev X hT hb hk hf
      have e0 : ev (.tmp 21) = .pointer (some ⟨d, 0, Option.none⟩) := hf.1
      exact OpOk.run (v := .pointer (some ⟨d, 0, Option.none⟩)) (W' := X) (by simp [execOp, e0, hb.1, go_sem]) ⟨rfl, Stay.refl _⟩
    · intro ev X hT hb hk hf
      have e0 : ev (.tmp 22) = .pointer (some ⟨d, 0, Option.none⟩) := hf.1
      exact OpOk.run (v := .pointer (some ⟨d, 1, Option.none⟩)) (W' := X) (by simp [execOp, e0, hud, go_sem]) ⟨rfl, Stay.refl _⟩
    · intro ev X hT hb hk hf
      have e0 : ev (.tmp 23) = .pointer (some ⟨d, 1, Option.none⟩) := hf.1
      have cW : X.cell? ⟨d, 1, Option.none⟩ = some (fptr p) := by rw [cell_of_row _ _ 1 _ _ _ (on_blk_mul (H1.out.below hT).right.right)]; exact dvV_get1 _ _ _ _ _ _
      exact OpOk.run (v := fptr p) (W' := X) (by simp [execOp, e0, cW, go_sem]) ⟨rfl, Stay.refl _⟩
    · intro ev X hT hb hk hf
      have e0 : ev (.tmp 0) = .pointer (some ⟨d, 0, Option.none⟩) := hk.1
      exact OpOk.move rfl e0 ⟨rfl, Stay.refl _⟩
    · intro ev X hT hb hk hf
      have e0 : ev (.tmp 25) = .pointer (some ⟨d, 0, Option.none⟩) := hf.1
      exact OpOk.run (v := .pointer (some ⟨d, 0, Option.none⟩)) (W' := X) (by simp [execOp, e0, hb.1, go_sem]) ⟨rfl, Stay.refl _⟩
    · intro ev X hT hb hk hf
      have e0 : ev (.tmp 26) = .pointer (some ⟨d, 0, Option.none⟩) := hf.1
      exact OpOk.run (v := .pointer (some ⟨d, 2, Option.none⟩)) (W' := X) (by simp [execOp, e0, hud, go_sem]) ⟨rfl, Stay.refl _⟩
    · intro ev X hT hb hk hf
      have e0 : ev (.tmp 27) = .pointer (some ⟨d, 2, Option.none⟩) := hf.1
      exact OpOk.load_part _ _ rfl d 2 e0 (limC 0 0) _ (fun j v hj => by rw [cell_of_row _ _ _ _ _ _ (on_blk_mul (H1.out.below hT).right.right)]; exact dvV_lim _ _ _ _ _ _ j v hj) hul rfl (limC_info 0 0) ⟨rfl, Stay.refl _⟩
    · intro ev X hT hb hk hf
      have e0 : ev (.tmp 24) = fptr p := hf.1
      have e1 : ev (.tmp 28) = .agg (limC 0 0) := hf.2.1
      refine OpOk.enters (f := 72) (args := #[fptr p, .agg (limC 0 0)]) (W' := X) (by simp [execOp, resolve, invoke, e0, e1, hb.1, hb.2.1, go_sem]) ((limits_calm p s _ X (H1.out.below hT).right HC.out 0).mono ?_)
      rintro e X2 ⟨rfl, h2⟩
      exact ⟨_, rfl, rfl, h2⟩
    · intro ev X hT hb hk hf
      have e0 : ev (.tmp 20) = .iface 130 (.pointer (some ⟨q, 0, Option.none⟩)) := hf.1
      have e1 : ev (.tmp 29) = .agg (limC 0 4096) := hf.2.1
      refine OpOk.enters (f := 71) (args := #[.iface 130 (.pointer (some ⟨q, 0, Option.none⟩)), .agg (limC 0 4096)]) (W' := X) (by simp [execOp, resolve, invoke, e0, e1, hb.1, hb.2.1, go_sem]) ((onew_kp q p R _ X (H1.out.below hT) hRo.out (by rw [← HRg.out]; exact HC.out.phase) (HL.out X (H1.out.below hT).right.right.right)).mono ?_)
      rintro e X2 ⟨m, rfl, h2, h3⟩
      exact ⟨_, rfl, ⟨m, rfl, h2⟩, h3⟩
    · intro ev X hT hb hk hf
      have e0 : ∃ m, (ev (.tmp 30)) = .tuple #[.pointer (some ⟨m, 0, Option.none⟩), .int .i64 0] ∧ (blk m (.cells (mK q) 127 (0, 0)) * (Kp q p R * (Flash p s * (blk d (.cells (dvV dec0 (fptr p) st0 img0 mach0 t0) 67 (0, 0)) * F)))).on X := hf.1
      exact OpOk.move rfl rfl ⟨e0, Stay.refl _⟩
    · intro ev X hT hb hk hf
      have e0 : ∃ m, (ev (.tmp 18)) = .tuple #[.pointer (some ⟨m, 0, Option.none⟩), .int .i64 0] ∧ (blk m (.cells (mK q) 127 (0, 0)) * (Kp q p R * (Flash p s * (blk d (.cells (dvV dec0 (fptr p) st0 img0 mach0 t0) 67 (0, 0)) * F)))).on X := hf.1
      obtain ⟨m, e0', h2⟩ := e0
      exact OpOk.run (v := .pointer (some ⟨m, 0, Option.none⟩)) (W' := X) (by simp [execOp, e0', go_sem]) ⟨⟨m, rfl, h2⟩, Stay.refl _⟩
    · intro ev X hT hb hk hf
      have e0 : ∃ m, (ev (.tmp 18)) = .tuple #[.pointer (some ⟨m, 0, Option.none⟩), .int .i64 0] ∧ (blk m (.cells (mK q) 127 (0, 0)) * (Kp q p R * (Flash p s * (blk d (.cells (dvV dec0 (fptr p) st0 img0 mach0 t0) 67 (0, 0)) * F)))).on X := hf.1
      obtain ⟨m, e0', h2⟩ := e0
      exact OpOk.run (v := .int .i64 0) (W' := X) (by simp [execOp, e0', go_sem]) ⟨rfl, Stay.refl _⟩
    · intro ev X hT hb hk hf
      have e0 : ∃ m, (ev (.tmp 31)) = .pointer (some ⟨m, 0, Option.none⟩) ∧ (blk m (.cells (mK q) 127 (0, 0)) * (Kp q p R * (Flash p s * (blk d (.cells (dvV dec0 (fptr p) st0 img0 mach0 t0) 67 (0, 0)) * F)))).on X := hf.1
      exact OpOk.assign rfl rfl ⟨e0, Stay.refl _⟩
  case rest =>
    intro X hT
    rintro _ rfl _ rfl _ rfl _ rfl _ rfl _ rfl _ rfl _ rfl _ rfl _ rfl _ rfl v30 - v18 - v31 - _ rfl v4 ⟨m, rfl, h30⟩
    have H2 := hide h30
    have S2 := hide (S1.out.trans (Str.below hT))
    have hD := hide (dnew_any 70 (by decide) (by decide) X)
    clear hT h30 H1 S1
    go_wp2
    refine Rest.done ?_
    go_wp2_with fail
    refine hD.out.mono ?_
    clear hD
    rintro e w3 ⟨v, rfl, ho, hs⟩
    obtain ⟨dp, rfl, hd⟩ := dnewQ.out ho
    have h3 := on_all_to hd H2.out
    have S3 := hide (S2.out.trans hs)
    rw [show ∀ A B C D E F9 : SP, A * (B * (C * (D * (E * F9)))) = E * (A * (B * (C * (D * F9)))) from fun A B C D E F9 => by ac_rfl] at h3
    have c1 : w3.cell? ⟨d, 1, Option.none⟩ = some (fptr p) := by rw [cell_of_row _ _ 1 _ _ _ (on_blk_mul h3)]; exact dvV_get1 _ _ _ _ _ _
    have hO := off_any p s (Dec dp ⟨[], 70, false, false⟩ * (blk m (.cells (mK q) 127 (0, 0)) * (Kp q p R * (blk d (.cells (dvV dec0 (fptr p) st0 img0 mach0 t0) 67 (0, 0)) * F)))) w3 (by
      rw [show ∀ A B C D E F9 : SP, E * (A * (B * (C * (D * F9)))) = D * (A * (B * (C * (E * F9)))) from fun A B C D E F9 => by ac_rfl] at h3
      exact h3)
    rw [HC.out.on] at hO
    have hB := hide (become_any d p dec0 img0 mach0 (dptr dp) nilV (.pointer (some ⟨m, 0, Option.none⟩)) st0 t0 1 0 rfl rfl rfl _ w3 h3)
    clear ho hd hs h3 H2 S2
    go_wp2_with fail
    refine hO.mono ?_
    clear hO c1
    rintro e w4 ⟨rfl, rfl⟩
    have hbw2 := hide (hbW dp m)
    clear hbW
    generalize dvV (dptr dp) pnil 1 nilV (.pointer (some ⟨m, 0, Option.none⟩)) 0 = zd at *
    go_wp2_with (refine wpList_build_list rfl 67 [(3, .const (.int .i64 1)), (0, .tmp 44), (5, .tmp 45)] rfl [(3, .int .i64 1), (0, dptr dp), (5, .pointer (some ⟨m, 0, Option.none⟩))] rfl zd (hbw2.out _) ?_)
    refine hB.out.mono ?_
    clear hB
    rintro e w5 ⟨⟨_, rfl⟩, h5, hs5⟩
    have H5 := hide h5
    have S5 := hide (S3.out.trans hs5)
    clear h5 hs5
    go_wp2_with fail
    go_end0
    exact ⟨⟨_, rfl⟩, dp, m, q, by rw [HRg.out]; exact H5.out, S5.out⟩
end Go.Proofs.YtgmpmlneoiagdaaGreatDoor

/- device: it starts, is reset, and made, where nothing is received nor copied; no device. -/
namespace Go.Proofs.YtgmpmlneoiagdaaGreatDoor
open Go.ChangeShapes Go.WideShapes Go.ChangeAt Go.RowKit
set_option linter.unusedVariables false
set_option linter.unusedSimpArgs false

set_option maxRecDepth 100000 in
set_option maxHeartbeats 16000000 in
theorem start_calm (d p : Nat) (dec0 img0 mach0 : Value) (st0 t0 : Nat) (s : FlS) (F : SP) (w : World) (h : (blk d (.cells (dvV dec0 (fptr p) st0 img0 mach0 t0) 67 (0, 0)) * (Flash p s * F)).on w) (c : s.Calm) (entry : Bool) (hv : entry = false → s.load.2.2 = 15) (hL : ∀ W, F.on W → Lens W) :
    Calls Tryz.prog 30 #[.pointer (some ⟨d, 0, Option.none⟩), .bool entry] w fun e w' => (∃ v, e = .returned v) ∧ ∃ dp m q, (blk d (.cells (dvV (dptr dp) (fptr p) 1 nilV (.pointer (some ⟨m, 0, Option.none⟩)) 0) 67 (0, 0)) * (Dec dp ⟨[], 70, false, false⟩ * (blk m (.cells (mK q) 127 (0, 0)) * (Kp q p s.load.1 * (Flash p s * F))))).on w' ∧ Str w w' := by
  have hud := Tryz.underlying67
  have hul := Tryz.underlying41
  have huc := Tryz.underlying105
  have hzc := ch_hz
  have Hci := hide (ch_info false nilV)
  have Hco : Hid ((chC false nilV).all (·.oneCell') = true) := hide (by simp [Value.oneCell'])
  have hS := hide (stop_any d p dec0 img0 mach0 st0 t0 (Flash p s * F) w h)
  have HC := hide c
  have HL := hide hL
  clear h c hL
  go_enter Tryz.func30, Tryz.ntmps30
  go_wp2_with fail
  refine hS.out.mono ?_
  clear hS
  rintro e w1 ⟨⟨_, rfl⟩, h1, hs1⟩
  have H1 := hide h1
  have S1 := hide hs1
  clear h1 hs1
  go_wp2_with fail
  refine wp_region_store 14 [isV (.pointer (some ⟨d, 0, Option.none⟩)), isV (.pointer (some ⟨d, 0, Option.none⟩)), isV (.pointer (some ⟨d, 1, Option.none⟩)), isV (fptr p), isV (.pointer (some ⟨d, 0, Option.none⟩)), isV (.pointer (some ⟨d, 0, Option.none⟩)), isV (.pointer (some ⟨d, 2, Option.none⟩)), isV (.agg (limC 0 0)), isV (.bool entry), isV (.tuple #[.agg (chC false nilV), .int .i64 0]), isV (.tuple #[.agg (chC false nilV), .int .i64 0]), isV (.agg (chC false nilV)), isV (.int .i64 0), (fun v X => ∃ g, v = .pointer (some ⟨g, 0, Option.none⟩) ∧ w1.heap.size ≤ g ∧ (blk g (.cells (chC false nilV) 105 (0, 0)) * (blk d (.cells (dvV pnil (fptr p) 0 nilV pnil 0) 67 (0, 0)) * (Flash p s * F))).on X), (fun _ _ => True), isV (.int .i64 0)]
    [isV (.pointer (some ⟨d, 0, Option.none⟩)), isV (.pointer (some ⟨d, 0, Option.none⟩)), isV (.pointer (some ⟨d, 1, Option.none⟩)), isV (fptr p), isV (.pointer (some ⟨d, 0, Option.none⟩)), isV (.pointer (some ⟨d, 0, Option.none⟩)), isV (.pointer (some ⟨d, 2, Option.none⟩)), isV (.agg (limC 0 0)), isV (.bool entry), isV (.tuple #[.agg (chC false nilV), .int .i64 0]), isV (.tuple #[.agg (chC false nilV), .int .i64 0]), isV (.agg (chC false nilV)), isV (.int .i64 0), (fun v X => ∃ g, v = .pointer (some ⟨g, 0, Option.none⟩) ∧ w1.heap.size ≤ g ∧ (blk g (.cells (chC false nilV) 105 (0, 0)) * (blk d (.cells (dvV pnil (fptr p) 0 nilV pnil 0) 67 (0, 0)) * (Flash p s * F))).on X), (fun _ _ => True), isV (.int .i64 0)] _ rfl (by kernel_rfl) (by kernel_rfl) rfl rfl (by decide) (.inr rfl) ?keep ?keep2 ?store ?todo ?rest
  case keep => exact ⟨Keep.isV _, Keep.isV _, Keep.isV _, Keep.isV _, Keep.isV _, Keep.isV _, Keep.isV _, Keep.isV _, Keep.isV _, Keep.isV _, Keep.isV _, Keep.isV _, Keep.isV _, fun _ _ _ ⟨g, h0, h1, h2⟩ k => ⟨g, h0, h1, h2.below k⟩, fun _ _ _ h _ => h, Keep.isV _, trivial⟩
  case keep2 => exact ⟨Keep.isV _, Keep.isV _, Keep.isV _, Keep.isV _, Keep.isV _, Keep.isV _, Keep.isV _, Keep.isV _, Keep.isV _, Keep.isV _, Keep.isV _, Keep.isV _, Keep.isV _, fun _ _ _ ⟨g, h0, h1, h2⟩ k => ⟨g, h0, h1, h2.below k⟩, fun _ _ _ h _ => h, Keep.isV _, trivial⟩
  case store =>
    intro ev X hT0 hb hk hf
    have hT := Stay.undrew hT0
    obtain ⟨g, e0, hge, hg⟩ : ∃ g, ev (.tmp 4) = .pointer (some ⟨g, 0, Option.none⟩) ∧ w1.heap.size ≤ g ∧ (blk g (.cells (chC false nilV) 105 (0, 0)) * (blk d (.cells (dvV pnil (fptr p) 0 nilV pnil 0) 67 (0, 0)) * (Flash p s * F))).on X := hf.1
    have e1 : ev (.tmp 19) = .agg (chC false nilV) := hf.2.1
    refine OpOk.store_row _ _ _ rfl g (chC false nilV) e0 e1 _ (chC false nilV) (on_blk_mul hg) Hci.out rfl Hco.out ⟨below_setRow hT0 (by simpa using hge) _, ?_⟩
    intro i his hv
    match i, his, hv with
    | 0, _, hv => exact hv
    | 1, _, hv => exact hv
    | 2, _, hv => exact hv
    | 3, _, hv => exact hv
    | 4, _, hv => exact hv
    | 5, _, hv => exact hv
    | 6, _, hv => exact hv
    | 7, _, hv => exact hv
    | 8, _, hv => exact hv
    | 9, _, hv => exact hv
    | 10, _, hv => exact hv
    | 11, _, hv => exact hv
    | 12, _, hv => exact hv
    | 13, _, hv =>
      obtain ⟨g', e0', hge', hg'⟩ : ∃ g, ev (.tmp 4) = .pointer (some ⟨g, 0, Option.none⟩) ∧ w1.heap.size ≤ g ∧ (blk g (.cells (chC false nilV) 105 (0, 0)) * (blk d (.cells (dvV pnil (fptr p) 0 nilV pnil 0) 67 (0, 0)) * (Flash p s * F))).on X := hv
      rw [e0] at e0'
      cases e0'
      exact ⟨g, e0, hge, hg.setRow (chC false nilV)⟩
    | 14, h, _ => exact absurd rfl h
    | 15, _, hv => exact hv
    | n + 16, _, _ => exact trivial
  case todo =>
    refine ⟨?_, ?_, ?_, ?_, ?_, ?_, ?_, ?_, ?_, ?_, ?_, ?_, ?_, ?_, ?_, ?_, trivial⟩
    · intro _ ph h1 h2
      obtain rfl : ph = false := h2 (by kernel_rfl)
      intro ev X hT0 hb hk hf
      have hT := Stay.undrew hT0
      have e0 : ev (.tmp 0) = .pointer (some ⟨d, 0, Option.none⟩) := hk.1
      exact OpOk.move rfl e0 ⟨rfl, Stay.refl _⟩
    · intro _ ph h1 h2
      obtain rfl : ph = false := h2 (by kernel_rfl)
      intro ev X hT0 hb hk hf
      have hT := Stay.undrew hT0
      have e0 : ev (.tmp 9) = .pointer (some ⟨d, 0, Option.none⟩) := hf.1
      exact OpOk.run (v := .pointer (some ⟨d, 0, Option.none⟩)) (W' := X) (by simp [execOp, e0, hb.1, go_sem]) ⟨rfl, Stay.refl _⟩
    · intro _ ph h1 h2
      obtain rfl : ph = false := h2 (by kernel_rfl)
      intro ev X hT0 hb hk hf
      have hT := Stay.undrew hT0
      have e0 : ev (.tmp 10) = .pointer (some ⟨d, 0, Option.none⟩) := hf.1
      exact OpOk.run (v := .pointer (some ⟨d, 1, Option.none⟩)) (W' := X) (by simp [execOp, e0, hud, go_sem]) ⟨rfl, Stay.refl _⟩
    · intro _ ph h1 h2
      obtain rfl : ph = false := h2 (by kernel_rfl)
      intro ev X hT0 hb hk hf
      have hT := Stay.undrew hT0
      have e0 : ev (.tmp 11) = .pointer (some ⟨d, 1, Option.none⟩) := hf.1
      have cW : X.cell? ⟨d, 1, Option.none⟩ = some (fptr p) := by rw [cell_of_row _ _ 1 _ _ _ (on_blk_mul (H1.out.below hT))]; exact dvV_get1 _ _ _ _ _ _
      exact OpOk.run (v := fptr p) (W' := X) (by simp [execOp, e0, cW, go_sem]) ⟨rfl, Stay.refl _⟩
    · intro _ ph h1 h2
      obtain rfl : ph = false := h2 (by kernel_rfl)
      intro ev X hT0 hb hk hf
      have hT := Stay.undrew hT0
      have e0 : ev (.tmp 0) = .pointer (some ⟨d, 0, Option.none⟩) := hk.1
      exact OpOk.move rfl e0 ⟨rfl, Stay.refl _⟩
    · intro _ ph h1 h2
      obtain rfl : ph = false := h2 (by kernel_rfl)
      intro ev X hT0 hb hk hf
      have hT := Stay.undrew hT0
      have e0 : ev (.tmp 13) = .pointer (some ⟨d, 0, Option.none⟩) := hf.1
      exact OpOk.run (v := .pointer (some ⟨d, 0, Option.none⟩)) (W' := X) (by simp [execOp, e0, hb.1, go_sem]) ⟨rfl, Stay.refl _⟩
    · intro _ ph h1 h2
      obtain rfl : ph = false := h2 (by kernel_rfl)
      intro ev X hT0 hb hk hf
      have hT := Stay.undrew hT0
      have e0 : ev (.tmp 14) = .pointer (some ⟨d, 0, Option.none⟩) := hf.1
      exact OpOk.run (v := .pointer (some ⟨d, 2, Option.none⟩)) (W' := X) (by simp [execOp, e0, hud, go_sem]) ⟨rfl, Stay.refl _⟩
    · intro _ ph h1 h2
      obtain rfl : ph = false := h2 (by kernel_rfl)
      intro ev X hT0 hb hk hf
      have hT := Stay.undrew hT0
      have e0 : ev (.tmp 15) = .pointer (some ⟨d, 2, Option.none⟩) := hf.1
      exact OpOk.load_part _ _ rfl d 2 e0 (limC 0 0) _ (fun j v hj => by rw [cell_of_row _ _ _ _ _ _ (on_blk_mul (H1.out.below hT))]; exact dvV_lim _ _ _ _ _ _ j v hj) hul rfl (limC_info 0 0) ⟨rfl, Stay.refl _⟩
    · intro _ ph h1 h2
      obtain rfl : ph = false := h2 (by kernel_rfl)
      intro ev X hT0 hb hk hf
      have hT := Stay.undrew hT0
      have e0 : ev (.tmp 1) = .bool entry := hk.1
      exact OpOk.move rfl e0 ⟨rfl, Stay.refl _⟩
    · intro _ ph h1 h2
      obtain rfl : ph = false := h2 (by kernel_rfl)
      intro ev X hT0 hb hk hf
      have hT := Stay.undrew hT0
      have e0 : ev (.tmp 12) = fptr p := hf.1
      have e1 : ev (.tmp 16) = .agg (limC 0 0) := hf.2.1
      have e2 : ev (.tmp 17) = .bool entry := hf.2.2.1
      refine OpOk.enters (f := 55) (args := #[fptr p, .agg (limC 0 0), .bool entry]) (W' := X) (by simp [execOp, resolve, invoke, e0, e1, e2, hb.1, hb.2.1, go_sem]) ((decide_calm p s _ X (H1.out.below hT).right HC.out 0 0 entry hv).mono ?_)
      rintro e X2 ⟨rfl, h2⟩
      exact ⟨_, rfl, rfl, h2⟩
    · intro _ ph h1 h2
      obtain rfl : ph = false := h2 (by kernel_rfl)
      intro ev X hT0 hb hk hf
      have hT := Stay.undrew hT0
      have e0 : ev (.tmp 18) = .tuple #[.agg (chC false nilV), .int .i64 0] := hf.1
      exact OpOk.move rfl e0 ⟨rfl, Stay.refl _⟩
    · intro _ ph h1 h2
      obtain rfl : ph = false := h2 (by kernel_rfl)
      intro ev X hT0 hb hk hf
      have hT := Stay.undrew hT0
      have e0 : ev (.tmp 8) = .tuple #[.agg (chC false nilV), .int .i64 0] := hf.1
      exact OpOk.run (v := .agg (chC false nilV)) (W' := X) (by simp [execOp, e0, hb.1, go_sem]) ⟨rfl, Stay.refl _⟩
    · intro _ ph h1 h2
      cases ph
      all_goals
        intro ev X hT0 hb hk hf
        have hT := Stay.undrew hT0
        have e0 : ev (.tmp 8) = .tuple #[.agg (chC false nilV), .int .i64 0] := hf.1
        exact OpOk.run (v := .int .i64 0) (W' := X) (by simp [execOp, e0, hb.1, go_sem]) ⟨rfl, Stay.refl _⟩
    · intro _ ph h1 h2
      obtain rfl : ph = false := h2 (by kernel_rfl)
      intro ev X hT0 hb hk hf
      have hT := Stay.undrew hT0
      exact OpOk.run (v := .pointer (some ⟨X.heap.size, 0, Option.none⟩)) (W' := X.alloc (.cells (chC false nilV) 105)) (by simp [execOp, hzc, go_sem]) ⟨⟨_, rfl, hT.size, (H1.out.below hT).alloc _⟩, (Below.refl _ _).alloc (Nat.le_refl _) _⟩
    · exact fun h => absurd rfl h
    · intro _ ph h1 h2
      obtain rfl : ph = true := h1 (by kernel_rfl)
      intro ev X hT0 hb hk hf
      have hT := Stay.undrew hT0
      have e0 : ev (.tmp 20) = .int .i64 0 := hf.1
      exact OpOk.assign rfl e0 ⟨rfl, Stay.refl _⟩
  case rest =>
    intro X hT
    rintro _ rfl _ rfl _ rfl _ rfl _ rfl _ rfl _ rfl _ rfl _ rfl _ rfl _ rfl _ rfl _ rfl v4 ⟨g, rfl, -, hg⟩ _ - _ rfl
    have c0 : X.cell? ⟨g, 0, Option.none⟩ = some (.bool false) := cell_of_row _ _ 0 _ _ _ (on_blk_mul hg)
    have hW := hide (wait_calm d p pnil nilV pnil 0 0 s F X hg.right HC.out HL.out)
    have S2 := hide (S1.out.trans (Str.below hT))
    clear hT hg H1 S1
    go_wp2
    refine Rest.done ?_
    go_wp2_with fail
    refine hW.out.mono ?_
    clear hW c0
    rintro e w3 ⟨⟨_, rfl⟩, dp, m, q, h3, hs3⟩
    have H3 := hide h3
    have S3 := hide (S2.out.trans hs3)
    clear h3 hs3
    go_wp2_with fail
    go_end0
    exact ⟨⟨_, rfl⟩, dp, m, q, H3.out, S3.out⟩

set_option maxRecDepth 100000 in
set_option maxHeartbeats 16000000 in
theorem reset_calm (d p : Nat) (dec0 img0 mach0 : Value) (st0 t0 : Nat) (s : FlS) (F : SP) (w : World) (h : (blk d (.cells (dvV dec0 (fptr p) st0 img0 mach0 t0) 67 (0, 0)) * (Flash p s * F)).on w) (c : s.Calm) (hpw : ({ s with off := false, armed := false } : FlS) = s) (entry : Bool) (hv : entry = false → s.load.2.2 = 15) (hL : ∀ W, F.on W → Lens W) :
    Calls Tryz.prog 15 #[.pointer (some ⟨d, 0, Option.none⟩), .bool entry] w fun e w' => (∃ v, e = .returned v) ∧ ∃ dp m q, (blk d (.cells (dvV (dptr dp) (fptr p) 1 nilV (.pointer (some ⟨m, 0, Option.none⟩)) 0) 67 (0, 0)) * (Dec dp ⟨[], 70, false, false⟩ * (blk m (.cells (mK q) 127 (0, 0)) * (Kp q p s.load.1 * (Flash p s * F))))).on w' ∧ Str w w' := by
  have hud := Tryz.underlying67
  have c1 : w.cell? ⟨d, 1, Option.none⟩ = some (fptr p) := by rw [cell_of_row _ _ 1 _ _ _ (on_blk_mul h)]; exact dvV_get1 _ _ _ _ _ _
  have hP := power_any p s (blk d (.cells (dvV dec0 (fptr p) st0 img0 mach0 t0) 67 (0, 0)) * F) w (by rw [SP.mul_left_comm]; exact h)
  rw [hpw] at hP
  have HP := hide hP
  have HSt := hide (fun X hX => start_calm d p dec0 img0 mach0 st0 t0 s F X hX c entry hv hL)
  clear h hP hpw c hL hv
  go_enter Tryz.func15, Tryz.ntmps15
  go_wp2_with fail
  refine HP.out.mono ?_
  clear HP
  rintro e w1 ⟨⟨_, rfl⟩, h1, hs1⟩
  rw [SP.mul_left_comm] at h1
  have hS := hide (HSt.out w1 h1)
  have S1 := hide hs1
  clear h1 hs1 HSt c1
  go_wp2_with fail
  refine hS.out.mono ?_
  clear hS
  rintro e w3 ⟨⟨_, rfl⟩, dp, m, q, h3, hs3⟩
  have H3 := hide h3
  have S3 := hide (S1.out.trans hs3)
  clear h3 hs3
  go_wp2_with fail
  go_end0
  exact ⟨⟨_, rfl⟩, dp, m, q, H3.out, S3.out⟩

set_option maxRecDepth 100000 in
set_option maxHeartbeats 16000000 in
theorem dnew_calm (p : Nat) (s : FlS) (F : SP) (w : World) (h : (Flash p s * F).on w) (c : s.Calm) (hpw : ({ s with off := false, armed := false } : FlS) = s) (entry : Bool) (hv : entry = false → s.load.2.2 = 15) (hL : ∀ W, F.on W → Lens W) :
    Calls Tryz.prog 10 #[fptr p, .agg (limC 0 0), .bool entry] w fun e w' => ∃ d dp m q, e = .returned (.tuple #[.pointer (some ⟨d, 0, Option.none⟩), .int .i64 0]) ∧ (blk d (.cells (dvV (dptr dp) (fptr p) 1 nilV (.pointer (some ⟨m, 0, Option.none⟩)) 0) 67 (0, 0)) * (Dec dp ⟨[], 70, false, false⟩ * (blk m (.cells (mK q) 127 (0, 0)) * (Kp q p s.load.1 * (Flash p s * F))))).on w' ∧ Str w w' := by
  have hul := Tryz.underlying41
  have h0 := h.alloc (.cells (limC 0 0) 41)
  have gL := hide (on_blk_mul h0)
  have hsz := size_any p s _ _ h0.right c.ok
  have hB2 : s.B.length ≤ 16384 := by have h1 := c.ok.pages; have h2 := c.ok.most; omega
  have hBI : ¬ (s.B.length : Int) < 8704 := by have := c.size; omega
  have h1 := h0.right.alloc (.cells (dvV pnil (fptr p) 0 nilV pnil 0) 67)
  rw [World.size_alloc] at h1
  have S1 := hide (((Str.refl w).alloc (.cells (limC 0 0) 41)).alloc (.cells (dvV pnil (fptr p) 0 nilV pnil 0) 67))
  have hR := hide (reset_calm (w.heap.size + 1) p pnil nilV pnil 0 0 s F _ h1 c hpw entry hv hL)
  have Hl := hide (limC_info 0 0)
  have hbn := hide (dv_buildN p)
  clear h h0 h1 c hpw hv hL
  generalize limC 0 0 = lm at *
  generalize hzd : dvV pnil (fptr p) 0 nilV pnil 0 = zd at *
  clear hzd
  go_enter Tryz.func10, Tryz.ntmps10
  go_wp2_with fail
  refine hsz.mono ?_
  clear hsz
  rintro e w1 ⟨rfl, rfl⟩
  go_wp2_with (first
    | (refine wpList_load_row rfl _ _ rfl w.heap.size rfl _ lm _ _ gL.out hul rfl Hl.out ?_)
    | (refine wpList_build_list rfl 67 [(1, .tmp 12), (2, .tmp 13)] rfl [(1, fptr p), (2, .agg lm)] rfl zd (hbn.out _) ?_))
  refine hR.out.mono ?_
  clear hR
  rintro e w3 ⟨⟨_, rfl⟩, dp, m, q, h3, hs3⟩
  have H3 := hide h3
  have S3 := hide (S1.out.trans hs3)
  clear h3 hs3
  go_wp2_with fail
  go_ret2
  exact ⟨w.heap.size + 1, dp, m, q, rfl, H3.out, S3.out⟩
end Go.Proofs.YtgmpmlneoiagdaaGreatDoor
