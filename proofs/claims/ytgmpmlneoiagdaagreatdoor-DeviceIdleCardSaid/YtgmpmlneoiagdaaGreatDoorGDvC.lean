/- LAID TOGETHER: Dv7, Dv8, Dv9. -/
import Derived.Test.YtgmpmlneoiagdaaGreatDoorGDvB
import Derived.Test.YtgmpmlneoiagdaaGreatDoorGFlN
import Derived.Test.YtgmpmlneoiagdaaGreatDoorGOpcA
import Derived.Test.YtgmpmlneoiagdaaGreatDoorGSlip
/- device: none; too little flash; its state; object: a Ping's answer. -/
namespace Go.Proofs.YtgmpmlneoiagdaaGreatDoor
open Go.ChangeShapes Go.WideShapes Go.ChangeAt Go.RowKit
set_option linter.unusedVariables false
set_option linter.unusedSimpArgs false

theorem lay_setRow {w : World} {c : Nat} {l : List Value} (h : Lay w (some ⟨c, 0, Option.none⟩) l) (g : Nat) (cs : Array Value) (hne : c ≠ g) : Lay (w.setRow g cs) (some ⟨c, 0, Option.none⟩) l := by
  intro i v hv
  refine ⟨c, 0, rfl, ?_⟩
  have h1 := Lay.cell h i hv
  have h2 := setRow_other w g c cs hne
  simp only [World.cell?, h2] at h1 ⊢
  exact h1
set_option maxRecDepth 100000 in
set_option maxHeartbeats 8000000 in
theorem orespond_pingD (da : Option Addr) (dc : Nat) (p : Nat) (w : World) :
    Calls Tryz.prog 78 #[.pointer (some ⟨p, 0, Option.none⟩), .agg (rqC 9 7 0 (.slice da 0 dc))] w fun e w' => ∃ c, e = .returned (.agg (rsC 9 1 (.slice (some ⟨c, 0, Option.none⟩) 1 1))) ∧ Lay w' (some ⟨c, 0, Option.none⟩) [vb 7] ∧ w.heap.size ≤ c ∧ Below w.heap.size w w' := by
  have hu := Tryz.underlying93
  have hz := zr_hz
  have hs : (Tryz.prog.info? 93).map (·.size) = some 3 := by kernel_rfl
  have h1 := ((on_all w).alloc (.cells (rqC 9 7 0 (.slice da 0 dc)) 117)).alloc (.cells #[.int .u8 0, .int .u8 0, nV] 93)
  rw [World.size_alloc] at h1
  have hs1 := ((Str.refl w).alloc (.cells (rqC 9 7 0 (.slice da 0 dc)) 117)).alloc (.cells #[.int .u8 0, .int .u8 0, nV] 93)
  have hg := on_blk_mul h1.right
  have c0 := cell_of_row _ _ 0 _ _ _ hg
  have c1 := cell_of_row _ _ 1 _ _ _ hg
  have H1 := hide h1
  have HS1 := hide hs1
  clear h1 hs1 hg
  have c0' : ((w.alloc (.cells (rqC 9 7 0 (.slice da 0 dc)) 117)).alloc (.cells #[.int .u8 0, .int .u8 0, nV] 93)).cell? ⟨w.heap.size, 0, Option.none⟩ = some (.int .u8 9) := c0
  have c1' : ((w.alloc (.cells (rqC 9 7 0 (.slice da 0 dc)) 117)).alloc (.cells #[.int .u8 0, .int .u8 0, nV] 93)).cell? ⟨w.heap.size, 1, Option.none⟩ = some (.int .u8 7) := c1
  clear c0 c1
  go_enter Tryz.func78, Tryz.ntmps78
  go_wp2_with fail
  have hsz : ((w.alloc (.cells (rqC 9 7 0 (.slice da 0 dc)) 117)).alloc (.cells #[.int .u8 0, .int .u8 0, nV] 93)).heap.size = w.heap.size + 1 + 1 := by simp
  have hE := oanswer_any 9 1 (some ⟨((w.alloc (.cells (rqC 9 7 0 (.slice da 0 dc)) 117)).alloc (.cells #[.int .u8 0, .int .u8 0, nV] 93)).heap.size, 0, Option.none⟩) 1 1 (((w.alloc (.cells (rqC 9 7 0 (.slice da 0 dc)) 117)).alloc (.cells #[.int .u8 0, .int .u8 0, nV] 93)).alloc (.cells #[.int .u8 7] 5))
  have hl := Lay.new ((w.alloc (.cells (rqC 9 7 0 (.slice da 0 dc)) 117)).alloc (.cells #[.int .u8 0, .int .u8 0, nV] 93)) [vb 7] 5
  rw [hsz] at hE hl
  have hl2 : Lay (((w.alloc (.cells (rqC 9 7 0 (.slice da 0 dc)) 117)).alloc (.cells #[.int .u8 0, .int .u8 0, nV] 93)).alloc (.cells #[.int .u8 7] 5)) (some ⟨w.heap.size + 1 + 1, 0, Option.none⟩) [vb 7] := hl
  have H2 := hide (H1.out.alloc' (.cells #[.int .u8 7] 5))
  have HS2 := hide (HS1.out.alloc (.cells #[.int .u8 7] 5))
  have Hl := hide hl2
  clear hl hl2 hsz c0' c1'
  generalize (((w.alloc (.cells (rqC 9 7 0 (.slice da 0 dc)) 117)).alloc (.cells #[.int .u8 0, .int .u8 0, nV] 93)).alloc (.cells #[.int .u8 7] 5)) = w1 at *
  generalize hc : w.heap.size + 1 + 1 = c at *
  have Hc := hide hc.symm
  clear hc
  refine hE.mono ?_
  clear hE
  rintro e w2 ⟨rfl, hb⟩
  have hr2 := on_blk_mul (H2.out.below hb)
  have HB2 := hide (all_below (H2.out.below hb).right.right (HS2.out.trans (Str.below hb)))
  have hone : (rsC 9 1 (.slice (some ⟨c, 0, Option.none⟩) 1 1)).all (·.oneCell') = true := by simp [Value.oneCell', vb]
  have Hl2 := hide (Hl.out.below hb)
  have Hne := hide (show c ≠ w.heap.size + 1 from fun e => by have := Hc.out; omega)
  have Hl3 := hide (lay_setRow Hl2.out (w.heap.size + 1) (rsC 9 1 (.slice (some ⟨c, 0, Option.none⟩) 1 1)) Hne.out)
  clear hb
  go_wp2_with (refine wpList_store_row rfl _ _ _ rfl (w.heap.size + 1) (rsC 9 1 (.slice (some ⟨c, 0, Option.none⟩) 1 1)) rfl rfl _ _ hr2 hs rfl hone ?_)
  refine bodyPost_ret (v := .agg (rsC 9 1 (.slice (some ⟨c, 0, Option.none⟩) 1 1))) (results_cell_row Tryz.results78 _ _ (w.heap.size + 1) _ (rsC 9 1 (.slice (some ⟨c, 0, Option.none⟩) 1 1)) (0, 0) _ rfl (setRow_heap_same _ _ _ _ _ _ hr2) hu rfl hs) rfl ?_
  refine ⟨c, rfl, ?_, by have := Hc.out; omega, below_setRow HB2.out (by omega) _⟩
  exact Hl3.out

set_option maxRecDepth 100000 in
set_option maxHeartbeats 8000000 in
theorem oask_pingD (da : Option Addr) (dc : Nat) (p : Nat) (w : World) :
    Calls Tryz.prog 67 #[.pointer (some ⟨p, 0, Option.none⟩), .agg (rqC 9 7 0 (.slice da 0 dc))] w fun e w' => ∃ c, e = .returned (.tuple #[.agg (rsC 9 1 (.slice (some ⟨c, 0, Option.none⟩) 1 1)), .bool true]) ∧ Lay w' (some ⟨c, 0, Option.none⟩) [vb 7] ∧ w.heap.size ≤ c ∧ Below w.heap.size w w' := by
  have hu := Tryz.underlying93
  have huq := Tryz.underlying117
  have hz := zr_hz
  have hs : (Tryz.prog.info? 93).map (·.size) = some 3 := by kernel_rfl
  have hsq : (Tryz.prog.info? 117).map (·.size) = some 4 := by kernel_rfl
  have h1 := ((on_all w).alloc (.cells (rqC 9 7 0 (.slice da 0 dc)) 117)).alloc (.cells #[.int .u8 0, .int .u8 0, nV] 93)
  rw [World.size_alloc] at h1
  have hs1 := ((Str.refl w).alloc (.cells (rqC 9 7 0 (.slice da 0 dc)) 117)).alloc (.cells #[.int .u8 0, .int .u8 0, nV] 93)
  have hg := on_blk_mul h1.right
  have c0 : ((w.alloc (.cells (rqC 9 7 0 (.slice da 0 dc)) 117)).alloc (.cells #[.int .u8 0, .int .u8 0, nV] 93)).cell? ⟨w.heap.size, 0, Option.none⟩ = some (.int .u8 9) := cell_of_row _ _ 0 _ _ _ hg
  have hE := orespond_pingD da dc p ((w.alloc (.cells (rqC 9 7 0 (.slice da 0 dc)) 117)).alloc (.cells #[.int .u8 0, .int .u8 0, nV] 93))
  have H1 := hide h1
  have HS1 := hide hs1
  have hsz : ((w.alloc (.cells (rqC 9 7 0 (.slice da 0 dc)) 117)).alloc (.cells #[.int .u8 0, .int .u8 0, nV] 93)).heap.size = w.heap.size + 1 + 1 := by simp
  have Hsz := hide hsz
  clear h1 hs1 hsz
  go_enter Tryz.func67, Tryz.ntmps67
  go_wp2_with (refine wpList_load_row rfl _ _ rfl w.heap.size rfl _ (rqC 9 7 0 (.slice da 0 dc)) _ _ hg huq rfl hsq ?_)
  generalize (w.alloc (.cells (rqC 9 7 0 (.slice da 0 dc)) 117)).alloc (.cells #[.int .u8 0, .int .u8 0, nV] 93) = w1 at *
  refine hE.mono ?_
  clear hE hg c0
  rintro e w2 ⟨c, rfl, hl, hcw, hb⟩
  have hr2 := on_blk_mul (H1.out.below hb)
  have HB2 := hide (all_below (H1.out.below hb).right.right (HS1.out.trans (Str.below hb)))
  have hone : (rsC 9 1 (.slice (some ⟨c, 0, Option.none⟩) 1 1)).all (·.oneCell') = true := by simp [Value.oneCell', vb]
  have Hne := hide (show c ≠ w.heap.size + 1 from fun e => by have := Hsz.out; omega)
  have Hl3 := hide (lay_setRow hl (w.heap.size + 1) (rsC 9 1 (.slice (some ⟨c, 0, Option.none⟩) 1 1)) Hne.out)
  have Hcw := hide (show w.heap.size ≤ c by have := Hsz.out; omega)
  clear hb hl hcw
  go_wp2_with (refine wpList_store_row rfl _ _ _ rfl (w.heap.size + 1) (rsC 9 1 (.slice (some ⟨c, 0, Option.none⟩) 1 1)) rfl rfl _ _ hr2 hs rfl hone ?_)
  refine bodyPost_ret (v := .tuple #[.agg (rsC 9 1 (.slice (some ⟨c, 0, Option.none⟩) 1 1)), .bool true]) (results_cell_row_tmp Tryz.results67 _ _ (w.heap.size + 1) _ (rsC 9 1 (.slice (some ⟨c, 0, Option.none⟩) 1 1)) (0, 0) _ rfl (setRow_heap_same _ _ _ _ _ _ hr2) hu rfl hs (.bool true) rfl) rfl ?_
  refine ⟨c, rfl, ?_, Hcw.out, below_setRow HB2.out (by omega) _⟩
  exact Hl3.out


set_option maxRecDepth 100000 in
set_option maxHeartbeats 8000000 in
theorem state_wait (d p : Nat) (dec img mach : Value) (t : Nat) (s : FlS) (F : SP) (w : World) (h : (blk d (.cells (dvV dec (fptr p) 1 img mach t) 67 (0, 0)) * (Flash p s * F)).on w) (hoff : s.off = false) :
    Calls Tryz.prog 14 #[.pointer (some ⟨d, 0, Option.none⟩)] w fun e w' => e = .returned (.tuple #[.int .i64 1, nilV]) ∧ w = w' := by
  have hN := now_on d p dec img mach 1 t s F w h hoff
  rw [show ((1 : Nat) : Int) = 1 from rfl] at hN
  clear h
  go_enter Tryz.func14, Tryz.ntmps14
  go_wp2_with fail
  refine hN.mono ?_
  rintro e _ ⟨rfl, rfl⟩
  go_wp2_with fail
  refine hN.mono ?_
  rintro e _ ⟨rfl, rfl⟩
  go_wp2_with fail
  go_ret2
  exact ⟨rfl, rfl⟩
set_option maxRecDepth 100000 in
set_option maxHeartbeats 4000000 in
theorem mcomplete_no (p q : Nat) (F : SP) (w : World) (h : (blk p (.cells (mK q) 127 (0, 0)) * F).on w) :
    Calls Tryz.prog 52 #[.pointer (some ⟨p, 0, Option.none⟩)] w fun e w' => e = .returned (.tuple #[.agg (pkC zP), .bool false]) ∧ Below w.heap.size w w' := by
  have hup := Tryz.underlying100
  have hz := pk_hz
  have hbz := build_pkz
  have hzs : (Tryz.prog.info? 100).map (·.size) = some (pkC zP).size := by kernel_rfl
  have hzo := pkC_one zP
  have HA := hide ((on_all w).alloc (.cells (pkC zP) 100))
  have S0 := hide ((Str.refl w).alloc (.cells (pkC zP) 100))
  have hC := hide (complete_no p q F _ (h.alloc' (.cells (pkC zP) 100)))
  clear h
  generalize pkC zP = Z at *
  go_enter Tryz.func52, Tryz.ntmps52
  go_wp2_with fail
  generalize w.alloc (.cells Z 100) = w0 at *
  refine hC.out.mono ?_
  clear hC
  rintro e w1 ⟨rfl, hb⟩
  have h1 := HA.out.below hb
  have g1 := on_blk_mul h1
  have H2 := hide (h1.setRow Z)
  have S2 := hide ((S0.out.trans (Str.below hb)).setRow w.heap.size Z)
  clear hb h1 HA S0
  go_wp2_with (first
    | (refine wpList_store_row rfl _ _ _ rfl w.heap.size Z rfl rfl _ _ g1 hzs rfl hzo ?_)
    | (refine wpList_build_eq rfl _ _ rfl Z (hbz _) ?_))
  refine bodyPost_ret (v := .tuple #[.agg Z, .bool false]) (results_cell_row_tmp Tryz.results52 _ _ w.heap.size _ Z (0, 0) _ rfl (setRow_heap_same _ _ _ _ _ _ g1) hup rfl hzs (.bool false) rfl) rfl ⟨rfl, all_below H2.out.right S2.out⟩
end Go.Proofs.YtgmpmlneoiagdaaGreatDoor

/- device: what a Ping is answered with. -/
namespace Go.Proofs.YtgmpmlneoiagdaaGreatDoor
open Go.ChangeShapes Go.WideShapes Go.ChangeAt Go.RowKit
set_option linter.unusedVariables false
set_option linter.unusedSimpArgs false

set_option maxRecDepth 100000 in
set_option maxHeartbeats 16000000 in
theorem respond_ping (d dp p m t : Nat) (F : SP) (w : World) (h : (blk d (.cells (dvV (dptr dp) (fptr p) 1 nilV (.pointer (some ⟨m, 0, Option.none⟩)) t) 67 (0, 0)) * F).on w) (v : Value) (hv : IsBytes w v [9, 7]) :
    Calls Tryz.prog 51 #[.pointer (some ⟨d, 0, Option.none⟩), v] w fun e w' => ∃ c, e = .returned (.tuple #[.agg (rsC 9 1 (.slice (some ⟨c, 0, Option.none⟩) 1 1)), .bool true]) ∧ Lay w' (some ⟨c, 0, Option.none⟩) [vb 7] ∧ Below w.heap.size w w' := by
  have hud := Tryz.underlying67
  have huq := Tryz.underlying117
  have hur := Tryz.underlying93
  have hz := zr_hz
  have hzq : ∀ w, (zeroValue 117).run Tryz.prog w = .ok (.agg zq) w := fun w => by kernel_rfl
  have hsq2 : (Tryz.prog.info? 117).map (·.size) = some 4 := by kernel_rfl
  have hs : (Tryz.prog.info? 93).map (·.size) = some 3 := by kernel_rfl
  have h0 := h.alloc' (.cells #[.int .u8 0, .int .u8 0, nV] 93)
  have c40 : (w.alloc (.cells #[.int .u8 0, .int .u8 0, nV] 93)).cell? ⟨d, 40, Option.none⟩ = some (.pointer (some ⟨m, 0, Option.none⟩)) := by rw [cell_of_row _ _ 40 _ _ _ (on_blk_mul h0)]; exact dvV_get40 _ _ _ _ _ _
  have HA := hide ((on_all w).alloc (.cells #[.int .u8 0, .int .u8 0, nV] 93))
  have S0 := hide ((Str.refl w).alloc (.cells #[.int .u8 0, .int .u8 0, nV] 93))
  have hE := oparse_any v [9, 7] (w.alloc (.cells #[.int .u8 0, .int .u8 0, nV] 93)) (hv.below (all_below HA.out.right S0.out)) (by decide)
  unfold ReqEnd at hE
  rw [show reqGot [9, 7] = ⟨9, 7, 0, []⟩ from by kernel_rfl, show reqErr [9, 7] = 0 from by kernel_rfl] at hE
  have HE := hide hE
  have Hzs := hide (show (w.alloc (.cells #[.int .u8 0, .int .u8 0, nV] 93)).heap.size = w.heap.size + 1 by simp)
  obtain ⟨va, vc, rfl, hvc, hvm, _, _⟩ := hv
  unfold maxLen at hvm
  have c40h := hide c40
  clear h h0 hE c40
  go_enter Tryz.func51, Tryz.ntmps51
  go_wp2_with fail
  generalize w.alloc (.cells #[.int .u8 0, .int .u8 0, nV] 93) = w0 at *
  refine HE.out.mono ?_
  clear HE
  rintro e w1 ⟨dv, rfl, ho, hs1⟩
  obtain ⟨da, dc, rfl, _, _, _, _⟩ := own_value ho
  have hb1 := all_below ho.right hs1
  have C1 := hide ((hb1.cell (p := ⟨d, 40, Option.none⟩) (World.block_lt_of_cell? _ _ c40h.out)).trans c40h.out)
  have h1 := (on_all_to ho HA.out).alloc (.cells zq 117)
  have gA := hide (on_blk_mul h1)
  have h2 := h1.setRow (rqC 9 7 0 (.slice da 0 dc))
  have GQ := hide (on_blk_mul h2)
  have S2 := hide (((S0.out.trans hs1).alloc (.cells zq 117)).setRow w1.heap.size (rqC 9 7 0 (.slice da 0 dc)))
  have C40 := hide (((below_setRow ((Below.refl w1.heap.size w1).alloc (Nat.le_refl _) (.cells zq 117)) (Nat.le_refl _) (rqC 9 7 0 (.slice da 0 dc))).cell (p := ⟨d, 40, Option.none⟩) (World.block_lt_of_cell? _ _ C1.out)).trans C1.out)
  have H2 := hide h2
  have hsq : (Tryz.prog.info? 117).map (·.size) = some (rqC 9 7 0 (.slice da 0 dc)).size := hsq2
  have Hone : Hid ((rqC 9 7 0 (.slice da 0 dc)).all (·.oneCell') = true) := hide (by simp [Value.oneCell', vb])
  have HgR := hide (show w.heap.size < ((w1.alloc (.cells zq 117)).setRow w1.heap.size (rqC 9 7 0 (.slice da 0 dc))).heap.size by have h5 := hs1.size; have h6 := Hzs.out; simp; omega)
  have hstop : ∀ p : Prop, Hid p → p := fun _ h => h.out
  clear ho hs1 h1 h2 hb1 HA S0 c40h C1 Hzs
  rw [show ((0 : Nat) : Int) = 0 from rfl]
  go_wp2_with (refine wpList_store_row rfl _ _ _ rfl w1.heap.size (rqC 9 7 0 (.slice da 0 dc)) rfl rfl _ _ gA.out hsq rfl Hone.out ?_; refine hstop _ ?_)
  refine hide ?_
  clear hstop gA
  generalize (w1.alloc (.cells zq 117)).setRow w1.heap.size (rqC 9 7 0 (.slice da 0 dc)) = w2 at *
  generalize w1.heap.size = gQ at *
  generalize hgR : w.heap.size = gR at *
  have HgE := hide hgR
  clear hgR
  go_wp2_with fail
  refine wp_region_tail 8 [isV (.pointer (some ⟨d, 0, Option.none⟩)), isV (.pointer (some ⟨d, 0, Option.none⟩)), isV (.pointer (some ⟨d, 40, Option.none⟩)), isV (.pointer (some ⟨m, 0, Option.none⟩)), isV (.agg (rqC 9 7 0 (.slice da 0 dc))), fun v X => ∃ c, v = .tuple #[.agg (rsC 9 1 (.slice (some ⟨c, 0, Option.none⟩) 1 1)), .bool true] ∧ Lay X (some ⟨c, 0, Option.none⟩) [vb 7] ∧ c ≠ gR, fun v X => ∃ c, v = .agg (rsC 9 1 (.slice (some ⟨c, 0, Option.none⟩) 1 1)) ∧ Lay X (some ⟨c, 0, Option.none⟩) [vb 7] ∧ c ≠ gR, isV (.bool true)]
    (by simp only [List.take_succ_cons, List.take_zero]; rfl) (by simp only [List.drop_succ_cons, List.drop_zero]; rfl) (by kernel_rfl) (by kernel_rfl) (by kernel_rfl) (by decide) rfl ?keep ?todo ?rest
  case keep => exact ⟨Keep.isV _, Keep.isV _, Keep.isV _, Keep.isV _, Keep.isV _, fun _ _ _ ⟨c, h1, h2, h3⟩ k => ⟨c, h1, h2.below k, h3⟩, fun _ _ _ ⟨c, h1, h2, h3⟩ k => ⟨c, h1, h2.below k, h3⟩, Keep.isV _, trivial⟩
  case todo =>
    refine ⟨?_, ?_, ?_, ?_, ?_, ?_, ?_, ?_, trivial⟩
    · intro ev X hT hb hk hf
      have e0 : ev (.tmp 0) = .pointer (some ⟨d, 0, Option.none⟩) := hk.1
      exact OpOk.move rfl e0 ⟨rfl, Stay.refl _⟩
    · intro ev X hT hb hk hf
      have e0 : ev (.tmp 16) = .pointer (some ⟨d, 0, Option.none⟩) := hf.1
      exact OpOk.run (v := .pointer (some ⟨d, 0, Option.none⟩)) (W' := X) (by simp [execOp, e0, hb.1, go_sem]) ⟨rfl, Stay.refl _⟩
    · intro ev X hT hb hk hf
      have e0 : ev (.tmp 17) = .pointer (some ⟨d, 0, Option.none⟩) := hf.1
      exact OpOk.run (v := .pointer (some ⟨d, 40, Option.none⟩)) (W' := X) (by simp [execOp, e0, hud, go_sem]) ⟨rfl, Stay.refl _⟩
    · intro ev X hT hb hk hf
      have e0 : ev (.tmp 18) = .pointer (some ⟨d, 40, Option.none⟩) := hf.1
      have cW : X.cell? ⟨d, 40, Option.none⟩ = some (.pointer (some ⟨m, 0, Option.none⟩)) := (hT.cell (p := ⟨d, 40, Option.none⟩) (World.block_lt_of_cell? _ _ C40.out)).trans C40.out
      exact OpOk.run (v := .pointer (some ⟨m, 0, Option.none⟩)) (W' := X) (by simp [execOp, e0, cW, go_sem]) ⟨rfl, Stay.refl _⟩
    · intro ev X hT hb hk hf
      have e0 : ev (.tmp 6) = .pointer (some ⟨gQ, 0, Option.none⟩) := hk.1
      exact OpOk.load_row _ _ rfl gQ hk.1 _ _ _ _ ((hT.block _ (Array.getElem?_eq_some_iff.1 GQ.out).1).trans GQ.out) huq rfl hsq ⟨rfl, Stay.refl _⟩
    · intro ev X hT hb hk hf
      have e0 : ev (.tmp 19) = .pointer (some ⟨m, 0, Option.none⟩) := hf.1
      have e1 : ev (.tmp 20) = .agg (rqC 9 7 0 (.slice da 0 dc)) := hf.2.1
      refine OpOk.enters (f := 67) (args := #[.pointer (some ⟨m, 0, Option.none⟩), .agg (rqC 9 7 0 (.slice da 0 dc))]) (W' := X) (by simp [execOp, resolve, invoke, e0, e1, hb.1, hb.2.1, go_sem]) ((oask_pingD da dc m X).mono ?_)
      rintro e X2 ⟨c, rfl, h2, h4, h3⟩
      exact ⟨_, rfl, ⟨c, rfl, h2, fun e9 => by have h5 := hT.size; have h6 := HgR.out; omega⟩, h3⟩
    · intro ev X hT hb hk hf
      have e0 : ∃ c, (ev (.tmp 21)) = .tuple #[.agg (rsC 9 1 (.slice (some ⟨c, 0, Option.none⟩) 1 1)), .bool true] ∧ Lay X (some ⟨c, 0, Option.none⟩) [vb 7] ∧ c ≠ gR := hf.1
      obtain ⟨c, e0', h2, h3⟩ := e0
      exact OpOk.run (v := .agg (rsC 9 1 (.slice (some ⟨c, 0, Option.none⟩) 1 1))) (W' := X) (by simp [execOp, e0', go_sem]) ⟨⟨c, rfl, h2, h3⟩, Stay.refl _⟩
    · intro ev X hT hb hk hf
      have e0 : ∃ c, (ev (.tmp 21)) = .tuple #[.agg (rsC 9 1 (.slice (some ⟨c, 0, Option.none⟩) 1 1)), .bool true] ∧ Lay X (some ⟨c, 0, Option.none⟩) [vb 7] ∧ c ≠ gR := hf.1
      obtain ⟨c, e0', h2, h3⟩ := e0
      exact OpOk.run (v := .bool true) (W' := X) (by simp [execOp, e0', go_sem]) ⟨rfl, Stay.refl _⟩
  case rest =>
    intro X hT
    rintro _ rfl _ rfl _ rfl _ rfl _ rfl _ - _ ⟨c, rfl, hlc, hne⟩ _ rfl
    have h3 := H2.out.below hT
    rw [show ∀ A B C D : SP, A * (B * (C * D)) = C * (D * (A * B)) from fun A B C D => by ac_rfl] at h3
    have g3 := on_blk_mul h3
    have H4 := hide (h3.setRow (rsC 9 1 (.slice (some ⟨c, 0, Option.none⟩) 1 1)))
    have S4 := hide ((S2.out.trans (Str.below hT)).setRow gR (rsC 9 1 (.slice (some ⟨c, 0, Option.none⟩) 1 1)))
    have Hl3 := hide (lay_setRow hlc gR (rsC 9 1 (.slice (some ⟨c, 0, Option.none⟩) 1 1)) hne)
    have hone : ((rsC 9 1 (.slice (some ⟨c, 0, Option.none⟩) 1 1)) : Array Value).all (·.oneCell') = true := by simp [Value.oneCell', vb]
    clear hT h3 H2 S2 hlc
    go_wp2
    refine Rest.done ?_
    go_wp2_with (refine wpList_store_row rfl _ _ _ rfl gR (rsC 9 1 (.slice (some ⟨c, 0, Option.none⟩) 1 1)) rfl rfl _ _ g3 hs rfl hone ?_)
    refine bodyPost_ret (v := .tuple #[.agg (rsC 9 1 (.slice (some ⟨c, 0, Option.none⟩) 1 1)), .bool true]) (results_cell_row_tmp Tryz.results51 _ _ gR _ (rsC 9 1 (.slice (some ⟨c, 0, Option.none⟩) 1 1)) (0, 0) _ rfl (setRow_heap_same _ _ _ _ _ _ g3) hur rfl hs (.bool true) rfl) rfl ?_
    exact ⟨c, rfl, Hl3.out, by have h9 := all_below H4.out.right.left S4.out; exact h9⟩
end Go.Proofs.YtgmpmlneoiagdaaGreatDoor

/- device: it hears a Ping, is fed; the chapter's example. -/
namespace Go.Proofs.YtgmpmlneoiagdaaGreatDoor
open Go.ChangeShapes Go.WideShapes Go.ChangeAt Go.RowKit
set_option linter.unusedVariables false
set_option linter.unusedSimpArgs false

set_option maxRecDepth 100000 in
set_option maxHeartbeats 16000000 in
theorem hear_ping (d dp p m q t : Nat) (s : FlS) (G : SP) (w : World) (h : (blk d (.cells (dvV (dptr dp) (fptr p) 1 nilV (.pointer (some ⟨m, 0, Option.none⟩)) t) 67 (0, 0)) * (Flash p s * (blk m (.cells (mK q) 127 (0, 0)) * G))).on w) (hoff : s.off = false) (v : Value) (hvG : ∀ W, G.on W → IsBytes W v [9, 7]) :
    Calls Tryz.prog 28 #[.pointer (some ⟨d, 0, Option.none⟩), v] w fun e w' => ∃ out, e = .returned out ∧ (ownR out [96, 9, 1, 7, 192] * (blk d (.cells (dvV (dptr dp) (fptr p) 1 nilV (.pointer (some ⟨m, 0, Option.none⟩)) 0) 67 (0, 0)) * (Flash p s * (blk m (.cells (mK q) 127 (0, 0)) * G)))).on w' ∧ Str w w' := by
  have hud := Tryz.underlying67
  have hur := Tryz.underlying93
  have hup := Tryz.underlying100
  have hz := zr_hz
  have hzp := pk_hz
  have hs : (Tryz.prog.info? 93).map (·.size) = some 3 := by kernel_rfl
  have Hps := hide (show (Tryz.prog.info? 100).map (·.size) = some (pkC zP).size by kernel_rfl)
  have Hpo := hide (pkC_one zP)
  have hg := on_blk_mul h
  have f41 := frozen_of_row w d 41 _ _ hg
  have c41 : w.cell? ⟨d, 41, Option.none⟩ = some (.int .i64 (t : Nat)) := by rw [cell_of_row _ _ 41 _ _ _ hg]; exact dvV_get41 _ _ _ _ _ _
  have h1 := h.setCell (i := 41) (.int .i64 ((0 : Nat) : Int))
  rw [dvV_set41] at h1
  have H1 := hide (show (blk d (.cells (dvV (dptr dp) (fptr p) 1 nilV (.pointer (some ⟨m, 0, Option.none⟩)) 0) 67 (0, 0)) * (Flash p s * (blk m (.cells (mK q) 127 (0, 0)) * G))).on (w.setCell ⟨d, 41, Option.none⟩ (.int .i64 0)) from h1)
  have S1 := hide ((Str.refl w).setCell ⟨d, 41, Option.none⟩ (.int .i64 0))
  have hv1 : IsBytes (w.setCell ⟨d, 41, Option.none⟩ (.int .i64 0)) v [9, 7] := hvG _ H1.out.right.right.right
  have hR := hide (respond_ping d dp p m 0 _ _ H1.out v hv1)
  obtain ⟨va, vc, rfl, _, _, _, _⟩ := hv1
  clear h h1 hg hvG
  generalize hPk : pkC zP = Z at *
  have HPk := hide hPk
  clear hPk
  go_enter Tryz.func28, Tryz.ntmps28
  go_wp2_with fail
  generalize w.setCell ⟨d, 41, Option.none⟩ (.int .i64 0) = w1 at *
  refine hR.out.mono ?_
  clear hR f41 c41
  rintro e w2 ⟨c, rfl, hlc, hb2⟩
  have h2 := (H1.out.below hb2).alloc (.cells #[.int .u8 0, .int .u8 0, nV] 93)
  have gA := hide (on_blk_mul h2)
  have Hone : Hid (((rsC 9 1 (.slice (some ⟨c, 0, Option.none⟩) 1 1)) : Array Value).all (·.oneCell') = true) := hide (by simp [Value.oneCell', vb])
  have h3 := h2.setRow (rsC 9 1 (.slice (some ⟨c, 0, Option.none⟩) 1 1))
  have H3 := hide h3
  have S3 := hide (((S1.out.trans (Str.below hb2)).alloc (.cells #[.int .u8 0, .int .u8 0, nV] 93)).setRow w2.heap.size (rsC 9 1 (.slice (some ⟨c, 0, Option.none⟩) 1 1)))
  have hbw := below_setRow ((Below.refl w2.heap.size w2).alloc (Nat.le_refl _) (.cells #[.int .u8 0, .int .u8 0, nV] 93)) (Nat.le_refl _) (rsC 9 1 (.slice (some ⟨c, 0, Option.none⟩) 1 1))
  have Hl3 := hide (Lay.below hlc hbw)
  have hstop : ∀ p : Prop, Hid p → p := fun _ h => h.out
  clear hlc hb2 h2 h3 hbw H1 S1
  go_wp2_with (refine wpList_store_row rfl _ _ _ rfl w2.heap.size (rsC 9 1 (.slice (some ⟨c, 0, Option.none⟩) 1 1)) rfl rfl _ _ gA.out hs rfl Hone.out ?_; refine hstop _ ?_)
  refine hide ?_
  clear hstop gA
  generalize (w2.alloc (.cells #[.int .u8 0, .int .u8 0, nV] 93)).setRow w2.heap.size (rsC 9 1 (.slice (some ⟨c, 0, Option.none⟩) 1 1)) = w3 at *
  generalize w2.heap.size = gR at *
  have g3 := hide (on_blk_mul H3.out)
  have h4 := H3.out.right
  have hN := hide (now_on d p _ _ _ 1 0 s _ w3 h4 hoff)
  rw [show ((1 : Nat) : Int) = 1 from rfl] at hN
  have c40 : w3.cell? ⟨d, 40, Option.none⟩ = some (.pointer (some ⟨m, 0, Option.none⟩)) := by rw [cell_of_row _ _ 40 _ _ _ (on_blk_mul h4)]; exact dvV_get40 _ _ _ _ _ _
  have hM := hide (mcomplete_no m q _ w3 (show (blk m (.cells (mK q) 127 (0, 0)) * (Flash p s * (blk d (.cells (dvV (dptr dp) (fptr p) 1 nilV (.pointer (some ⟨m, 0, Option.none⟩)) 0) 67 (0, 0)) * G))).on w3 by
    rw [show ∀ A B C D : SP, C * (B * (A * D)) = A * (B * (C * D)) from fun A B C D => by ac_rfl]
    exact h4))
  rw [HPk.out] at hM
  clear h4
  go_wp2_with fail
  refine hN.out.mono ?_
  clear hN
  rintro e _ ⟨rfl, rfl⟩
  go_wp2_with fail
  refine hM.out.mono ?_
  clear hM c40
  rintro e w4 ⟨rfl, hb4⟩
  have h5 := H3.out.below hb4
  have S5 := hide ((S3.out.trans (Str.below hb4)))
  have Hl4 := hide (Lay.below Hl3.out hb4)
  have h6 := h5.alloc' (.cells Z 100)
  have gZ := hide (heap_alloc_new w4 (.cells Z 100))
  have hbz := below_setRow ((Below.refl w4.heap.size w4).alloc (Nat.le_refl _) (.cells Z 100)) (Nat.le_refl _) Z
  have H7 := hide (h5.below hbz)
  have S7 := hide ((S5.out.alloc (.cells Z 100)).setRow w4.heap.size Z)
  have Hl7 := hide (Lay.below Hl4.out hbz)
  have hstop : ∀ p : Prop, Hid p → p := fun _ h => h.out
  clear hb4 h5 h6 hbz H3 S3 S5 g3 Hl3 Hl4
  go_wp2_with (refine wpList_store_row rfl _ _ _ rfl w4.heap.size Z rfl rfl _ _ gZ.out Hps.out rfl Hpo.out ?_; refine hstop _ ?_)
  refine hide ?_
  clear hstop gZ
  generalize (w4.alloc (.cells Z 100)).setRow w4.heap.size Z = w7 at *
  have g7 := hide (on_blk_mul H7.out)
  have hA := hide (aencode_any ⟨9, 1, [7]⟩ (.slice (some ⟨c, 0, Option.none⟩) 1 1) w7 ⟨_, _, rfl, Nat.le_refl _, by decide, Hl7.out, fun h => (nomatch h)⟩ (by decide))
  go_wp2_with (refine wpList_load_row rfl _ _ rfl gR rfl _ (rsC 9 1 (.slice (some ⟨c, 0, Option.none⟩) 1 1)) _ _ g7.out hur rfl hs ?_)
  refine hA.out.mono ?_
  clear hA g7
  rintro e w8 ⟨bv, rfl, ho, hs8⟩
  rw [show ansBytes ⟨9, 1, [7]⟩ = [96, 9, 1, 7] from rfl] at ho
  have hE := encode_any _ [[96, 9, 1, 7]] _ (IsRows.one (own_bytes ho) 22) (by decide)
  rw [show frames [[96, 9, 1, 7]] = [96, 9, 1, 7, 192] from by decide +kernel] at hE
  have HE := hide hE
  have H9 := hide ((on_all_to ho H7.out).right.right.alloc' (.cells #[bv] 22))
  have S9 := hide ((S7.out.trans hs8).alloc (.cells #[bv] 22))
  obtain ⟨ba, bc, rfl, _, _, _, _⟩ := own_value ho
  clear ho hs8 hE H7 S7 Hl7
  go_wp2_with fail
  refine HE.out.mono ?_
  clear HE
  rintro e w10 ⟨out, rfl, ho, hs10⟩
  have H10 := hide (on_all_to ho H9.out)
  have S10 := hide (S9.out.trans hs10)
  obtain ⟨oa, oc, rfl, _, _, _, _⟩ := own_value ho
  clear ho hs10 H9 S9
  go_wp2_with fail
  go_ret
  exact ⟨_, rfl, H10.out, S10.out⟩
end Go.Proofs.YtgmpmlneoiagdaaGreatDoor
