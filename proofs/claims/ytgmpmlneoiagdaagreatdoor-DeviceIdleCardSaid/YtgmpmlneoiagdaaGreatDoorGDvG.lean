/- LAID TOGETHER: Dv21, Dv22, Dv23. -/
import Derived.Test.YtgmpmlneoiagdaaGreatDoorGDvF
import Derived.Test.YtgmpmlneoiagdaaGreatDoorOpc4
/- object: a machine, whatever it was asked, that has no packet: it is not complete. -/
namespace Go.Proofs.YtgmpmlneoiagdaaGreatDoor
open Go.ChangeShapes Go.WideShapes Go.ChangeAt Go.RowKit
set_option linter.unusedVariables false
set_option linter.unusedSimpArgs false

set_option maxRecDepth 100000 in
set_option maxHeartbeats 16000000 in
theorem executed_m (p : Nat) (M : Array Value) (hM : M[47]? = some nV) (F : SP) (w : World) (h : (blk p (.cells (M) 127 (0, 0)) * F).on w) :
    Calls Tryz.prog 79 #[.pointer (some ⟨p, 0, Option.none⟩)] w fun e w' => e = .returned (.bool false) ∧ w = w' := by
  have hum := Tryz.underlying127
  have c47 : w.cell? ⟨p, 47, Option.none⟩ = some nV := by
    rw [cell_of_row _ _ 47 _ _ _ (on_blk_mul h)]
    exact hM
  go_enter Tryz.func79, Tryz.ntmps79
  go_wp2_with fail
  go_ret
  exact ⟨rfl, rfl⟩

set_option maxRecDepth 100000 in
set_option maxHeartbeats 16000000 in
theorem complete_m (p : Nat) (M : Array Value) (hM : M[47]? = some nV) (F : SP) (w : World) (h : (blk p (.cells (M) 127 (0, 0)) * F).on w) :
    Calls Tryz.prog 68 #[.pointer (some ⟨p, 0, Option.none⟩)] w fun e w' => e = .returned (.bool false) ∧ Below w.heap.size w w' := by
  have H := hide h
  have HM := hide hM
  clear h hM
  go_enter Tryz.func68, Tryz.ntmps68
  go_wp2_with fail
  refine wp_region_vs [isV (.pointer (some ⟨p, 0, Option.none⟩)), isV (.bool false), isV (.bool true), isV (.bool true), isV (undef), isV (undef), isV (undef), isV (undef), isV (undef), isV (undef), isV (undef), isV (undef), isV (undef), isV (undef), isV (undef), isV (.bool true)]
    (by kernel_rfl) (by kernel_rfl) rfl ?keep ?todo ?rest
  case keep => exact ⟨Keep.isV _, Keep.isV _, Keep.isV _, Keep.isV _, Keep.isV _, Keep.isV _, Keep.isV _, Keep.isV _, Keep.isV _, Keep.isV _, Keep.isV _, Keep.isV _, Keep.isV _, Keep.isV _, Keep.isV _, Keep.isV _, trivial⟩
  case todo =>
    refine ⟨?_, ?_, ?_, ?_, ?_, ?_, ?_, ?_, ?_, ?_, ?_, ?_, ?_, ?_, ?_, ?_, trivial⟩
    · intro ev X hT hb hk hf
      have e0 : ev (.tmp 0) = .pointer (some ⟨p, 0, Option.none⟩) := hk.1
      exact OpOk.move rfl e0 ⟨rfl, Stay.refl _⟩
    · intro ev X hT hb hk hf
      have e0 : ev (.tmp 5) = .pointer (some ⟨p, 0, Option.none⟩) := hf.1
      refine OpOk.enters (f := 79) (args := #[.pointer (some ⟨p, 0, Option.none⟩)]) (W' := X) (by simp [execOp, resolve, invoke, e0, hb.1, hb.2.1, go_sem]) ((executed_m p M HM.out F X (H.out.below hT)).mono ?_)
      rintro e X2 ⟨rfl, rfl⟩
      exact ⟨_, rfl, rfl, Stay.refl _⟩
    · intro ev X hT hb hk hf
      have e0 : ev (.tmp 6) = .bool false := hf.1
      exact OpOk.run (v := .bool true) (W' := X) (by simp [execOp, e0, hb.1, go_sem]) ⟨rfl, Stay.refl _⟩
    · intro ev X hT hb hk hf
      have e0 : ev (.tmp 7) = .bool true := hf.1
      exact OpOk.move rfl e0 ⟨rfl, Stay.refl _⟩
    · exact fun ev X hT hb hk hf => ⟨true, hf.1, fun h => (nomatch h), fun _ => rfl⟩
    · exact fun ev X hT hb hk hf => ⟨true, hf.2.1, fun h => (nomatch h), fun _ => rfl⟩
    · exact fun ev X hT hb hk hf => ⟨true, hf.2.1, fun h => (nomatch h), fun _ => rfl⟩
    · exact fun ev X hT hb hk hf => ⟨true, hf.2.1, fun h => (nomatch h), fun _ => rfl⟩
    · exact fun ev X hT hb hk hf => ⟨true, hf.1, fun h => (nomatch h), fun _ => rfl⟩
    · exact fun ev X hT hb hk hf => ⟨true, hf.2.1, fun h => (nomatch h), fun _ => rfl⟩
    · exact fun ev X hT hb hk hf => ⟨true, hf.2.1, fun h => (nomatch h), fun _ => rfl⟩
    · exact fun ev X hT hb hk hf => ⟨true, hf.2.1, fun h => (nomatch h), fun _ => rfl⟩
    · exact fun ev X hT hb hk hf => ⟨true, hf.2.1, fun h => (nomatch h), fun _ => rfl⟩
    · exact fun ev X hT hb hk hf => ⟨true, hf.2.1, fun h => (nomatch h), fun _ => rfl⟩
    · exact fun ev X hT hb hk hf => ⟨true, hf.2.2.1, fun h => (nomatch h), fun _ => rfl⟩
    · intro ev X hT hb hk hf
      have e0 : ev (.tmp 8) = .bool true := hf.1
      have e1 : ev (.tmp 19) = undef := hf.2.1
      exact OpOk.run (v := .bool true) (W' := X) (by simp [execOp, e0, e1, hb, hb.1, hb.2.1, hb.2.2, go_sem]) ⟨rfl, Stay.refl _⟩
  case rest =>
    intro X hT
    rintro _ rfl _ rfl _ rfl _ rfl _ rfl _ rfl _ rfl _ rfl _ rfl _ rfl _ rfl _ rfl _ rfl _ rfl _ rfl _ rfl
    have HB := hide (show Below w.heap.size w X from hT)
    clear hT
    go_wp2
    refine Rest.done ?_
    go_wp2_with fail
    go_ret
    exact ⟨rfl, HB.out⟩

set_option maxRecDepth 100000 in
set_option maxHeartbeats 16000000 in
theorem mcomplete_m (p : Nat) (M : Array Value) (hM : M[47]? = some nV) (F : SP) (w : World) (h : (blk p (.cells (M) 127 (0, 0)) * F).on w) :
    Calls Tryz.prog 52 #[.pointer (some ⟨p, 0, Option.none⟩)] w fun e w' => e = .returned (.tuple #[.agg (pkC zP), .bool false]) ∧ Below w.heap.size w w' := by
  have hup := Tryz.underlying100
  have hz := pk_hz
  have hbz := build_pkz
  have hzs : (Tryz.prog.info? 100).map (·.size) = some (pkC zP).size := by kernel_rfl
  have hzo := pkC_one zP
  have HA := hide ((on_all w).alloc (.cells (pkC zP) 100))
  have S0 := hide ((Str.refl w).alloc (.cells (pkC zP) 100))
  have hC := hide (complete_m p M hM F _ (h.alloc' (.cells (pkC zP) 100)))
  clear h hM
  generalize pkC zP = Z at *
  go_enter Tryz.func52, Tryz.ntmps52
  go_wp2_with fail
  generalize w.alloc (.cells Z 100) = w0 at *
  refine hC.out.mono ?_
  clear hC
  rintro e w1 ⟨rfl, hb⟩
  have h1 := HA.out.below hb
  have g1 := on_blk_mul h1
  have H2 := hide (h1.setRow Z)
  have S2 := hide ((S0.out.trans (Str.below hb)).setRow w.heap.size Z)
  clear hb h1 HA S0
  go_wp2_with (first
    | (refine wpList_store_row rfl _ _ _ rfl w.heap.size Z rfl rfl _ _ g1 hzs rfl hzo ?_)
    | (refine wpList_build_eq rfl _ _ rfl Z (hbz _) ?_))
  refine bodyPost_ret (v := .tuple #[.agg Z, .bool false]) (results_cell_row_tmp Tryz.results52 _ _ w.heap.size _ Z (0, 0) _ rfl (setRow_heap_same _ _ _ _ _ _ g1) hup rfl hzs (.bool false) rfl) rfl ⟨rfl, all_below H2.out.right S2.out⟩

end Go.Proofs.YtgmpmlneoiagdaaGreatDoor

/- object: numbers; what was received, on a machine that has no packet. -/
namespace Go.Proofs.YtgmpmlneoiagdaaGreatDoor
open Go.ChangeShapes Go.WideShapes Go.ChangeAt Go.RowKit
set_option linter.unusedVariables false
set_option linter.unusedSimpArgs false

theorem isB_nil (w : World) : IsBytes w (.slice Option.none 0 0) [] := ⟨Option.none, 0, rfl, Nat.le_refl _, by decide, fun i u h => by simp at h, fun _ => rfl⟩
theorem words2 (w : World) (s : Nat) (hs : s < 4294967296) : IsWords (w.alloc (.cells #[.int .u32 0, .int .u32 (s : Nat)] 29)) (.slice (some ⟨w.heap.size, 0, Option.none⟩) 2 2) [0, s] :=
  ⟨_, _, rfl, Nat.le_refl _, by decide, Lay.new w [u32v 0, u32v s] 29, fun h => (nomatch h), by simp; omega⟩
theorem words1 (w : World) (s : Nat) (hs : s < 4294967296) : IsWords (w.alloc (.cells #[.int .u32 (s : Nat)] 29)) (.slice (some ⟨w.heap.size, 0, Option.none⟩) 1 1) [s] :=
  ⟨_, _, rfl, Nat.le_refl _, by decide, Lay.new w [u32v s] 29, fun h => (nomatch h), by simp; omega⟩
set_option maxRecDepth 100000 in
set_option maxHeartbeats 16000000 in
theorem onumbers_any (s : Nat) (hs : s < 4294967296) (w : World) :
    Calls Tryz.prog 116 #[.int .i64 0, .int .u32 (s : Nat)] w (Makes w fun v => ownR v (numsB [0, s])) := by
  have hN := numbers_any _ [0, s] _ (words2 w s hs) (by simp)
  have A1 := hide ((on_all w).alloc' (.cells #[.int .u32 0, .int .u32 (s : Nat)] 29))
  have S1 := hide ((Str.refl w).alloc (.cells #[.int .u32 0, .int .u32 (s : Nat)] 29))
  have ew : IntKind.u32.wrap 0 = 0 := by decide
  go_enter Tryz.func116, Tryz.ntmps116
  go_wp2_with fail
  refine hN.mono ?_
  clear hN
  rintro e w1 ⟨v, rfl, ho, hs1⟩
  have H9 := hide (on_all_to ho A1.out)
  have S9 := hide (S1.out.trans hs1)
  obtain ⟨oa, oc, rfl, _, _, _, _⟩ := own_value ho
  clear ho hs1
  go_wp2_with fail
  go_ret
  exact ⟨_, rfl, H9.out, S9.out⟩

set_option maxRecDepth 100000 in
set_option maxHeartbeats 16000000 in
theorem received_1 (m : Nat) (M : Array Value) (F : SP) (w : World) (h : (blk m (.cells M 127 (0, 0)) * F).on w) (hL : ∀ j v, (#[.bool false, .int .i64 0, .slice Option.none 0 0] : Array Value)[j]? = some v → M[41 + j]? = some v) (h47 : M[47]? = some nV) :
    Calls Tryz.prog 99 #[.pointer (some ⟨m, 0, Option.none⟩), .int .u8 1] w (Makes w fun v => ownR v (numsB [0, crcUpd 0 []])) := by
  have hum := Tryz.underlying127
  have hup := Tryz.underlying124
  have hz : ∀ w, (zeroValue 124).run Tryz.prog w = .ok (.agg #[.bool false, .int .i64 0, .slice Option.none 0 0]) w := fun w => by kernel_rfl
  have hs : (Tryz.prog.info? 124).map (·.size) = some 3 := by kernel_rfl
  have hone : (#[.bool false, .int .i64 0, .slice Option.none 0 0] : Array Value).all (·.oneCell') = true := by simp [Value.oneCell']
  have HLm := hide (show ∀ j v, (#[.bool false, .int .i64 0, .slice Option.none 0 0] : Array Value)[j]? = some v → w.cell? ⟨m, 41 + j, Option.none⟩ = some v from fun j v hj => by
    rw [cell_of_row _ _ _ _ _ _ (on_blk_mul h)]; exact hL j v hj)
  have hA := ((on_all w).alloc (.cells #[.bool false, .int .i64 0, .slice Option.none 0 0] 124)).setRow #[.bool false, .int .i64 0, .slice Option.none 0 0]
  have HF := hide (h.below (show Below w.heap.size w ((w.alloc (.cells #[.bool false, .int .i64 0, .slice Option.none 0 0] 124)).setRow w.heap.size #[.bool false, .int .i64 0, .slice Option.none 0 0]) from below_setRow ((Below.refl w.heap.size w).alloc (Nat.le_refl _) _) (Nat.le_refl _) _))
  have HB := hide (show Below w.heap.size w ((w.alloc (.cells #[.bool false, .int .i64 0, .slice Option.none 0 0] 124)).setRow w.heap.size #[.bool false, .int .i64 0, .slice Option.none 0 0]) from below_setRow ((Below.refl w.heap.size w).alloc (Nat.le_refl _) _) (Nat.le_refl _) _)
  have HAll := hide ((on_all w).below HB.out)
  have gA := hide (heap_alloc_new w (.cells #[.bool false, .int .i64 0, .slice Option.none 0 0] 124))
  have HG := hide (on_blk_mul hA)
  have H47 := hide h47
  clear h hL hA h47
  have hstop : ∀ p : Prop, Hid p → p := fun _ h => h.out
  go_enter Tryz.func99, Tryz.ntmps99
  go_wp2_with (first
    | (refine wpList_load_part rfl _ _ rfl m 41 rfl #[.bool false, .int .i64 0, .slice Option.none 0 0] _ HLm.out hup rfl hs ?_)
    | (refine wpList_store_row rfl _ _ _ rfl w.heap.size #[.bool false, .int .i64 0, .slice Option.none 0 0] rfl rfl _ _ gA.out hs rfl hone ?_; refine hstop _ ?_))
  refine hide ?_
  clear hstop gA HLm
  generalize (w.alloc (.cells #[.bool false, .int .i64 0, .slice Option.none 0 0] 124)).setRow w.heap.size #[.bool false, .int .i64 0, .slice Option.none 0 0] = w1 at *
  generalize w.heap.size = g at *
  have c0 : w1.cell? ⟨g, 0, Option.none⟩ = some (.bool false) := cell_of_row _ _ 0 _ _ _ HG.out
  have C47 := hide (show ∀ X, Stay w1 X → X.cell? ⟨m, 47, Option.none⟩ = some (.slice Option.none 0 0) from fun X hT => by rw [cell_of_row _ _ 47 _ _ _ (on_blk_mul (HF.out.below hT))]; exact H47.out)
  have CG := hide (show ∀ X, Stay w1 X → X.cell? ⟨g, 2, Option.none⟩ = some (.slice Option.none 0 0) from fun X hT => by rw [cell_of_row _ _ 2 _ _ _ ((hT.block _ (Array.getElem?_eq_some_iff.1 HG.out).1).trans HG.out)]; rfl)
  go_wp2_with fail
  refine wp_region_vs [isV (.pointer (some ⟨m, 0, Option.none⟩)), isV (.pointer (some ⟨m, 0, Option.none⟩)), isV (.pointer (some ⟨m, 47, Option.none⟩)), isV (.slice Option.none 0 0), isV (.int .i64 0), isV (.pointer (some ⟨m, 0, Option.none⟩)), isV (.pointer (some ⟨m, 0, Option.none⟩)), isV (.pointer (some ⟨m, 47, Option.none⟩)), isV (.slice Option.none 0 0), fun v X => IsRows X v [[]], isV (.int .u32 (crcUpd 0 [] : Nat)), fun v X => (ownR v (numsB [0, crcUpd 0 []]) * all w1).on X, fun v X => (ownR v (numsB [0, crcUpd 0 []]) * all w1).on X]
    (by kernel_rfl) (by kernel_rfl) rfl ?keep ?todo ?rest
  case keep => exact ⟨Keep.isV _, Keep.isV _, Keep.isV _, Keep.isV _, Keep.isV _, Keep.isV _, Keep.isV _, Keep.isV _, Keep.isV _, fun _ _ _ h k => h.below k, Keep.isV _, fun _ _ _ h k => SP.on.below h k, fun _ _ _ h k => SP.on.below h k, trivial⟩
  case todo =>
    refine ⟨?_, ?_, ?_, ?_, ?_, ?_, ?_, ?_, ?_, ?_, ?_, ?_, ?_, trivial⟩
    · intro ev X hT hb hk hf
      have e0 : ev (.tmp 0) = .pointer (some ⟨m, 0, Option.none⟩) := hk.1
      exact OpOk.move rfl e0 ⟨rfl, Stay.refl _⟩
    · intro ev X hT hb hk hf
      have e0 : ev (.tmp 19) = .pointer (some ⟨m, 0, Option.none⟩) := hf.1
      exact OpOk.run (v := .pointer (some ⟨m, 0, Option.none⟩)) (W' := X) (by simp [execOp, e0, hb.1, go_sem]) ⟨rfl, Stay.refl _⟩
    · intro ev X hT hb hk hf
      have e0 : ev (.tmp 20) = .pointer (some ⟨m, 0, Option.none⟩) := hf.1
      exact OpOk.run (v := .pointer (some ⟨m, 47, Option.none⟩)) (W' := X) (by simp [execOp, e0, hum, go_sem]) ⟨rfl, Stay.refl _⟩
    · intro ev X hT hb hk hf
      have e0 : ev (.tmp 21) = .pointer (some ⟨m, 47, Option.none⟩) := hf.1
      have cW := C47.out X hT
      exact OpOk.run (v := .slice Option.none 0 0) (W' := X) (by simp [execOp, e0, cW, go_sem]) ⟨rfl, Stay.refl _⟩
    · intro ev X hT hb hk hf
      have e0 : ev (.tmp 22) = .slice Option.none 0 0 := hf.1
      exact OpOk.run (v := .int .i64 0) (W' := X) (by simp [execOp, e0, hb.1, go_sem]) ⟨rfl, Stay.refl _⟩
    · intro ev X hT hb hk hf
      have e0 : ev (.tmp 0) = .pointer (some ⟨m, 0, Option.none⟩) := hk.1
      exact OpOk.move rfl e0 ⟨rfl, Stay.refl _⟩
    · intro ev X hT hb hk hf
      have e0 : ev (.tmp 24) = .pointer (some ⟨m, 0, Option.none⟩) := hf.1
      exact OpOk.run (v := .pointer (some ⟨m, 0, Option.none⟩)) (W' := X) (by simp [execOp, e0, hb.1, go_sem]) ⟨rfl, Stay.refl _⟩
    · intro ev X hT hb hk hf
      have e0 : ev (.tmp 25) = .pointer (some ⟨m, 0, Option.none⟩) := hf.1
      exact OpOk.run (v := .pointer (some ⟨m, 47, Option.none⟩)) (W' := X) (by simp [execOp, e0, hum, go_sem]) ⟨rfl, Stay.refl _⟩
    · intro ev X hT hb hk hf
      have e0 : ev (.tmp 26) = .pointer (some ⟨m, 47, Option.none⟩) := hf.1
      have cW := C47.out X hT
      exact OpOk.run (v := .slice Option.none 0 0) (W' := X) (by simp [execOp, e0, cW, go_sem]) ⟨rfl, Stay.refl _⟩
    · intro ev X hT hb hk hf
      have e0 : ev (.tmp 27) = .slice Option.none 0 0 := hf.1
      exact OpOk.run (v := .slice (some ⟨X.heap.size, 0, Option.none⟩) 1 1) (W' := X.alloc (.cells #[.slice Option.none 0 0] 22)) (by simp [execOp, e0, go_sem]) ⟨IsRows.one (isB_nil X) 22, (Below.refl _ _).alloc (Nat.le_refl _) _⟩
    · intro ev X hT hb hk hf
      have e0 : IsRows X (ev (.tmp 28)) [[]] := hf.1
      have e0' : IsRows X (ev (.tmp 28)) [[]] := e0
      refine OpOk.enters (f := 60) (args := #[ev (.tmp 28)]) (W' := X) (by simp [execOp, resolve, invoke, hb.2.1, go_sem]) ((sum_any _ [[]] X e0').mono ?_)
      rintro e X2 ⟨rfl, h5⟩
      exact ⟨_, rfl, rfl, h5⟩
    · intro ev X hT hb hk hf
      have e0 : ev (.tmp 23) = .int .i64 0 := hf.1
      have e1 : ev (.tmp 29) = .int .u32 (crcUpd 0 [] : Nat) := hf.2.1
      refine OpOk.enters (f := 116) (args := #[.int .i64 0, .int .u32 (crcUpd 0 [] : Nat)]) (W' := X) (by simp [execOp, resolve, invoke, e0, e1, hb.1, hb.2.1, go_sem]) ((onumbers_any (crcUpd 0 []) (crcUpd_lt 0 []) X).mono ?_)
      rintro e X2 ⟨v9, rfl, h4, h5⟩
      exact ⟨_, rfl, on_all_to h4 ((on_all w1).below hT), all_below h4.right h5⟩
    · intro ev X hT hb hk hf
      have e0 : (ownR (ev (.tmp 30)) (numsB [0, crcUpd 0 []]) * all w1).on X := hf.1
      have e0' : (ownR (ev (.tmp 30)) (numsB [0, crcUpd 0 []]) * all w1).on X := e0
      exact OpOk.run (v := ev (.tmp 30)) (W' := X) (by simp [execOp, go_sem]) ⟨e0', Stay.refl _⟩
  case rest =>
    intro X hT
    rintro _ rfl _ rfl _ rfl _ rfl _ rfl _ rfl _ rfl _ rfl _ rfl _ - _ rfl _ - v4 ho
    have ho : (ownR v4 (numsB [0, crcUpd 0 []]) * all w1).on X := ho
    have H9 := hide (on_all_to ho HAll.out)
    have S9 := hide ((Str.below HB.out).trans (Str.below hT))
    obtain ⟨oa, oc, rfl, _, _, _, _⟩ := own_value ho
    clear ho hT
    go_wp2
    refine Rest.done ?_
    go_wp2_with fail
    go_ret
    exact ⟨_, rfl, H9.out, S9.out⟩

set_option maxRecDepth 100000 in
set_option maxHeartbeats 16000000 in
theorem received_2 (m : Nat) (M : Array Value) (F : SP) (w : World) (h : (blk m (.cells M 127 (0, 0)) * F).on w) (hL : ∀ j v, (#[.bool false, .int .i64 0, .slice Option.none 0 0] : Array Value)[j]? = some v → M[44 + j]? = some v) (h47 : M[47]? = some nV) :
    Calls Tryz.prog 99 #[.pointer (some ⟨m, 0, Option.none⟩), .int .u8 2] w (Makes w fun v => ownR v (numsB [0, crcUpd 0 []])) := by
  have hum := Tryz.underlying127
  have hup := Tryz.underlying124
  have hz : ∀ w, (zeroValue 124).run Tryz.prog w = .ok (.agg #[.bool false, .int .i64 0, .slice Option.none 0 0]) w := fun w => by kernel_rfl
  have hs : (Tryz.prog.info? 124).map (·.size) = some 3 := by kernel_rfl
  have hone : (#[.bool false, .int .i64 0, .slice Option.none 0 0] : Array Value).all (·.oneCell') = true := by simp [Value.oneCell']
  have HLm := hide (show ∀ j v, (#[.bool false, .int .i64 0, .slice Option.none 0 0] : Array Value)[j]? = some v → w.cell? ⟨m, 44 + j, Option.none⟩ = some v from fun j v hj => by
    rw [cell_of_row _ _ _ _ _ _ (on_blk_mul h)]; exact hL j v hj)
  have hA := ((on_all w).alloc (.cells #[.bool false, .int .i64 0, .slice Option.none 0 0] 124)).setRow #[.bool false, .int .i64 0, .slice Option.none 0 0]
  have HF := hide (h.below (show Below w.heap.size w ((w.alloc (.cells #[.bool false, .int .i64 0, .slice Option.none 0 0] 124)).setRow w.heap.size #[.bool false, .int .i64 0, .slice Option.none 0 0]) from below_setRow ((Below.refl w.heap.size w).alloc (Nat.le_refl _) _) (Nat.le_refl _) _))
  have HB := hide (show Below w.heap.size w ((w.alloc (.cells #[.bool false, .int .i64 0, .slice Option.none 0 0] 124)).setRow w.heap.size #[.bool false, .int .i64 0, .slice Option.none 0 0]) from below_setRow ((Below.refl w.heap.size w).alloc (Nat.le_refl _) _) (Nat.le_refl _) _)
  have HAll := hide ((on_all w).below HB.out)
  have gA := hide (heap_alloc_new w (.cells #[.bool false, .int .i64 0, .slice Option.none 0 0] 124))
  have HG := hide (on_blk_mul hA)
  have H47 := hide h47
  clear h hL hA h47
  have hstop : ∀ p : Prop, Hid p → p := fun _ h => h.out
  go_enter Tryz.func99, Tryz.ntmps99
  go_wp2_with (first
    | (refine wpList_load_part rfl _ _ rfl m 44 rfl #[.bool false, .int .i64 0, .slice Option.none 0 0] _ HLm.out hup rfl hs ?_)
    | (refine wpList_store_row rfl _ _ _ rfl w.heap.size #[.bool false, .int .i64 0, .slice Option.none 0 0] rfl rfl _ _ gA.out hs rfl hone ?_; refine hstop _ ?_))
  refine hide ?_
  clear hstop gA HLm
  generalize (w.alloc (.cells #[.bool false, .int .i64 0, .slice Option.none 0 0] 124)).setRow w.heap.size #[.bool false, .int .i64 0, .slice Option.none 0 0] = w1 at *
  generalize w.heap.size = g at *
  have c0 : w1.cell? ⟨g, 0, Option.none⟩ = some (.bool false) := cell_of_row _ _ 0 _ _ _ HG.out
  have C47 := hide (show ∀ X, Stay w1 X → X.cell? ⟨m, 47, Option.none⟩ = some (.slice Option.none 0 0) from fun X hT => by rw [cell_of_row _ _ 47 _ _ _ (on_blk_mul (HF.out.below hT))]; exact H47.out)
  have CG := hide (show ∀ X, Stay w1 X → X.cell? ⟨g, 2, Option.none⟩ = some (.slice Option.none 0 0) from fun X hT => by rw [cell_of_row _ _ 2 _ _ _ ((hT.block _ (Array.getElem?_eq_some_iff.1 HG.out).1).trans HG.out)]; rfl)
  have hE := executed_m m M H47.out F w1 HF.out
  go_wp2_with fail
  refine hE.mono ?_
  clear hE
  rintro e _ ⟨rfl, rfl⟩
  go_wp2_with fail
  refine wp_region_vs [isV (.pointer (some ⟨g, 2, Option.none⟩)), isV (.slice Option.none 0 0), isV (.int .i64 0), isV (.pointer (some ⟨g, 2, Option.none⟩)), isV (.slice Option.none 0 0), fun v X => IsRows X v [[]], isV (.int .u32 (crcUpd 0 [] : Nat)), fun v X => (ownR v (numsB [0, crcUpd 0 []]) * all w1).on X, fun v X => (ownR v (numsB [0, crcUpd 0 []]) * all w1).on X]
    (by kernel_rfl) (by kernel_rfl) rfl ?keep ?todo ?rest
  case keep => exact ⟨Keep.isV _, Keep.isV _, Keep.isV _, Keep.isV _, Keep.isV _, fun _ _ _ h k => h.below k, Keep.isV _, fun _ _ _ h k => SP.on.below h k, fun _ _ _ h k => SP.on.below h k, trivial⟩
  case todo =>
    refine ⟨?_, ?_, ?_, ?_, ?_, ?_, ?_, ?_, ?_, trivial⟩
    · intro ev X hT hb hk hf
      have e0 : ev (.tmp 5) = .pointer (some ⟨g, 0, Option.none⟩) := hk.1
      exact OpOk.run (v := .pointer (some ⟨g, 2, Option.none⟩)) (W' := X) (by simp [execOp, e0, hb.1, go_sem]) ⟨rfl, Stay.refl _⟩
    · intro ev X hT hb hk hf
      have e0 : ev (.tmp 53) = .pointer (some ⟨g, 2, Option.none⟩) := hf.1
      have cW := CG.out X hT
      exact OpOk.run (v := .slice Option.none 0 0) (W' := X) (by simp [execOp, e0, cW, go_sem]) ⟨rfl, Stay.refl _⟩
    · intro ev X hT hb hk hf
      have e0 : ev (.tmp 54) = .slice Option.none 0 0 := hf.1
      exact OpOk.run (v := .int .i64 0) (W' := X) (by simp [execOp, e0, hb.1, go_sem]) ⟨rfl, Stay.refl _⟩
    · intro ev X hT hb hk hf
      have e0 : ev (.tmp 5) = .pointer (some ⟨g, 0, Option.none⟩) := hk.1
      exact OpOk.run (v := .pointer (some ⟨g, 2, Option.none⟩)) (W' := X) (by simp [execOp, e0, hb.1, go_sem]) ⟨rfl, Stay.refl _⟩
    · intro ev X hT hb hk hf
      have e0 : ev (.tmp 56) = .pointer (some ⟨g, 2, Option.none⟩) := hf.1
      have cW := CG.out X hT
      exact OpOk.run (v := .slice Option.none 0 0) (W' := X) (by simp [execOp, e0, cW, go_sem]) ⟨rfl, Stay.refl _⟩
    · intro ev X hT hb hk hf
      have e0 : ev (.tmp 57) = .slice Option.none 0 0 := hf.1
      exact OpOk.run (v := .slice (some ⟨X.heap.size, 0, Option.none⟩) 1 1) (W' := X.alloc (.cells #[.slice Option.none 0 0] 22)) (by simp [execOp, e0, go_sem]) ⟨IsRows.one (isB_nil X) 22, (Below.refl _ _).alloc (Nat.le_refl _) _⟩
    · intro ev X hT hb hk hf
      have e0 : IsRows X (ev (.tmp 58)) [[]] := hf.1
      have e0' : IsRows X (ev (.tmp 58)) [[]] := e0
      refine OpOk.enters (f := 60) (args := #[ev (.tmp 58)]) (W' := X) (by simp [execOp, resolve, invoke, hb.2.1, go_sem]) ((sum_any _ [[]] X e0').mono ?_)
      rintro e X2 ⟨rfl, h5⟩
      exact ⟨_, rfl, rfl, h5⟩
    · intro ev X hT hb hk hf
      have e0 : ev (.tmp 55) = .int .i64 0 := hf.1
      have e1 : ev (.tmp 59) = .int .u32 (crcUpd 0 [] : Nat) := hf.2.1
      refine OpOk.enters (f := 116) (args := #[.int .i64 0, .int .u32 (crcUpd 0 [] : Nat)]) (W' := X) (by simp [execOp, resolve, invoke, e0, e1, hb.1, hb.2.1, go_sem]) ((onumbers_any (crcUpd 0 []) (crcUpd_lt 0 []) X).mono ?_)
      rintro e X2 ⟨v9, rfl, h4, h5⟩
      exact ⟨_, rfl, on_all_to h4 ((on_all w1).below hT), all_below h4.right h5⟩
    · intro ev X hT hb hk hf
      have e0 : (ownR (ev (.tmp 60)) (numsB [0, crcUpd 0 []]) * all w1).on X := hf.1
      have e0' : (ownR (ev (.tmp 60)) (numsB [0, crcUpd 0 []]) * all w1).on X := e0
      exact OpOk.run (v := ev (.tmp 60)) (W' := X) (by simp [execOp, go_sem]) ⟨e0', Stay.refl _⟩
  case rest =>
    intro X hT
    rintro _ rfl _ rfl _ rfl _ rfl _ rfl _ - _ rfl _ - v4 ho
    have ho : (ownR v4 (numsB [0, crcUpd 0 []]) * all w1).on X := ho
    have H9 := hide (on_all_to ho HAll.out)
    have S9 := hide ((Str.below HB.out).trans (Str.below hT))
    obtain ⟨oa, oc, rfl, _, _, _, _⟩ := own_value ho
    clear ho hT
    go_wp2
    refine Rest.done ?_
    go_wp2_with fail
    go_ret
    exact ⟨_, rfl, H9.out, S9.out⟩
end Go.Proofs.YtgmpmlneoiagdaaGreatDoor

/- object: a type is selected, on a fresh machine. -/
namespace Go.Proofs.YtgmpmlneoiagdaaGreatDoor
open Go.ChangeShapes Go.WideShapes Go.ChangeAt Go.RowKit
set_option linter.unusedVariables false
set_option linter.unusedSimpArgs false

/-- how a machine answers: with few bytes, and holding no packet -/
def AnEnd (m : Nat) (F : SP) (w : World) (e : Ending) (w' : World) : Prop := ∃ (op res : UInt8) (v : Value) (body : List UInt8) (M : Array Value), e = .returned (.agg (rsC op res v)) ∧ M[47]? = some nV ∧ body.length ≤ 20 ∧ (ownR v body * (blk m (.cells M 127 (0, 0)) * F)).on w' ∧ Str w w'

set_option maxRecDepth 100000 in
set_option maxHeartbeats 16000000 in
theorem choose_1 (m q : Nat) (F : SP) (w : World) (h : (blk m (.cells (mK q) 127 (0, 0)) * F).on w) :
    Calls Tryz.prog 86 #[.pointer (some ⟨m, 0, Option.none⟩), .int .u8 1] w (AnEnd m F w) := by
  have hum := Tryz.underlying127
  have hu := Tryz.underlying93
  have hub := Tryz.underlying22
  have hi8 : (Tryz.prog.info? 5).map (fun i => (i.zero, i.size, i.bytes)) = some (some (.int .u8 0), 1, 1) := by kernel_rfl
  have hz := zr_hz
  have hs : (Tryz.prog.info? 93).map (·.size) = some 3 := by kernel_rfl
  have h0 := h.alloc (.cells #[.int .u8 0, .int .u8 0, nV] 93)
  rw [SP.mul_left_comm] at h0
  have f37 := frozen_of_row _ m 37 _ _ (on_blk_mul h0)
  have c37 : (w.alloc (.cells #[.int .u8 0, .int .u8 0, nV] 93)).cell? ⟨m, 37, Option.none⟩ = some (.int .u8 0) := by rw [cell_of_row _ _ 37 _ _ _ (on_blk_mul h0)]; kernel_rfl
  have h1 := h0.setCell (i := 37) (.int .u8 1)
  have hL1 : ∀ j v, (#[.bool false, .int .i64 0, .slice Option.none 0 0] : Array Value)[j]? = some v → ((mK q).setIfInBounds 37 (.int .u8 1))[41 + j]? = some v := by
    intro j v hj
    match j, hj with
    | 0, hj => rw [← hj]; rfl
    | 1, hj => rw [← hj]; rfl
    | 2, hj => rw [← hj]; rfl
    | n + 3, hj => simp at hj
  have h47 : ((mK q).setIfInBounds 37 (.int .u8 1))[47]? = some nV := rfl
  generalize hM1 : (mK q).setIfInBounds 37 (.int .u8 1) = M1 at *
  clear hM1
  have H2 := hide (h1.alloc' (.cells #[.int .u32 128] 29))
  have S2 := hide ((((Str.refl w).alloc (.cells #[.int .u8 0, .int .u8 0, nV] 93)).setCell ⟨m, 37, Option.none⟩ (.int .u8 1)).alloc (.cells #[.int .u32 128] 29))
  have hN := numbers_any _ [128] _ (words1 ((w.alloc (.cells #[.int .u8 0, .int .u8 0, nV] 93)).setCell ⟨m, 37, Option.none⟩ (.int .u8 1)) 128 (by decide)) (by decide)
  rw [show ((w.alloc (.cells #[.int .u8 0, .int .u8 0, nV] 93)).setCell ⟨m, 37, Option.none⟩ (.int .u8 1)).heap.size = w.heap.size + 1 by simp] at hN
  have hN := hide hN
  have HL1 := hide hL1
  have H47 := hide h47
  have hl1 : (numsB [128]).length = 4 := by rfl
  have hl2 : (numsB [0, crcUpd 0 []]).length = 8 := by rw [numsB_len]; rfl
  have Hl1 := hide hl1
  have Hl2 := hide hl2
  clear h h0 h1 hL1 h47 hl1 hl2
  go_enter Tryz.func86, Tryz.ntmps86
  go_wp2_with fail
  generalize ((w.alloc (.cells #[.int .u8 0, .int .u8 0, nV] 93)).setCell ⟨m, 37, Option.none⟩ (.int .u8 1)).alloc (.cells #[.int .u32 128] 29) = w2 at *
  generalize hg : w.heap.size = g at *
  have Hg := hide hg
  clear hg
  refine hN.out.mono ?_
  clear hN
  rintro e w3 ⟨v1, rfl, ho, hs3⟩
  have h3 := on_all_to ho H2.out
  have S3 := hide (S2.out.trans hs3)
  generalize hq1 : numsB [128] = l1 at *
  have h3m := h3
  rw [SP.mul_left_comm] at h3m
  have hR := hide (received_1 m M1 _ w3 h3m HL1.out H47.out)
  have H3 := hide h3
  obtain ⟨oa1, oc1, rfl, _, _, _, _⟩ := own_value h3
  clear ho hs3 h3 h3m
  go_wp2_with fail
  refine hR.out.mono ?_
  clear hR
  rintro e w4 ⟨v2, rfl, ho, hs4⟩
  have h4 := on_all_to ho H3.out
  have S4 := hide (S3.out.trans hs4)
  generalize hq2 : numsB [0, crcUpd 0 []] = l2 at *
  have Hb2 := hide (own_bytes h4)
  rw [SP.mul_left_comm] at h4
  have Hn2 := hide h4
  obtain ⟨oa2, oc2, rfl, _, _, _, _⟩ := Hb2.out
  clear ho hs4 h4
  go_wp2_with (at_builtin; refine wpList_append_bytes rfl _ _ 22 rfl 5 hub hi8 _ l1 l2 rfl Hn2.out _ rfl Hb2.out (by have := Hl1.out; have := Hl2.out; simp; omega) ?_; intro v5 w5 ho5 hs5; have Hl3 := hide (show (l1 ++ l2).length = 12 by have := Hl1.out; have := Hl2.out; simp; omega); generalize l1 ++ l2 = l3 at *; obtain ⟨oa5, oc5, rfl, _, _, _, _⟩ := own_value ho5; have Ho5 := hide (show (ownR (.slice oa5 l3.length oc5) l3 * (blk m (.cells M1 127 (0, 0)) * (blk g (.cells #[.int .u8 0, .int .u8 0, nV] 93 (0, 0)) * F))).on w5 from (SP.le.mul (SP.le.refl _) (SP.le_right _ _)).on ho5); have S5 := hide (S4.out.trans hs5); clear ho5 hs5)
  have hE := hide (oanswer_any 6 1 oa5 l3.length oc5 w5)
  go_wp2_with fail
  refine hE.out.mono ?_
  clear hE
  rintro e w8 ⟨rfl, hb⟩
  have h8 := Ho5.out.below hb
  rw [show ∀ A B C D : SP, A * (B * (C * D)) = C * (A * (B * D)) from fun A B C D => by ac_rfl] at h8
  have H8 := hide h8
  have g8 := hide (on_blk_mul h8)
  have S8 := hide (S5.out.trans (Str.below hb))
  clear hb h8
  have hone8 : (rsC 6 1 (.slice oa5 l3.length oc5)).all (·.oneCell') = true := by simp [Value.oneCell', vb]
  have H9 := hide (H8.out.setRow (rsC 6 1 (.slice oa5 l3.length oc5)))
  have S9 := hide (S8.out.setRow g (rsC 6 1 (.slice oa5 l3.length oc5)))
  go_wp2_with (refine wpList_store_row rfl _ _ _ rfl g (rsC 6 1 (.slice oa5 l3.length oc5)) rfl rfl _ _ g8.out hs rfl hone8 ?_)
  refine bodyPost_ret (v := .agg (rsC 6 1 (.slice oa5 l3.length oc5))) (results_cell_row Tryz.results86 _ _ g _ (rsC 6 1 (.slice oa5 l3.length oc5)) (0, 0) _ rfl (setRow_heap_same _ _ _ _ _ _ g8.out) hu rfl hs) rfl ?_
  exact ⟨6, 1, _, l3, M1, rfl, H47.out, (by have := Hl3.out; omega), (SP.le.mul (SP.le.refl _) (SP.le.mul (SP.le.refl _) (SP.le.refl _))).on H9.out.right, S9.out⟩

set_option maxRecDepth 100000 in
set_option maxHeartbeats 16000000 in
theorem choose_2 (m q : Nat) (F : SP) (w : World) (h : (blk m (.cells (mK q) 127 (0, 0)) * F).on w) :
    Calls Tryz.prog 86 #[.pointer (some ⟨m, 0, Option.none⟩), .int .u8 2] w (AnEnd m F w) := by
  have hum := Tryz.underlying127
  have hu := Tryz.underlying93
  have hub := Tryz.underlying22
  have hi8 : (Tryz.prog.info? 5).map (fun i => (i.zero, i.size, i.bytes)) = some (some (.int .u8 0), 1, 1) := by kernel_rfl
  have hz := zr_hz
  have hs : (Tryz.prog.info? 93).map (·.size) = some 3 := by kernel_rfl
  have h0 := h.alloc (.cells #[.int .u8 0, .int .u8 0, nV] 93)
  rw [SP.mul_left_comm] at h0
  have f37 := frozen_of_row _ m 37 _ _ (on_blk_mul h0)
  have c37 : (w.alloc (.cells #[.int .u8 0, .int .u8 0, nV] 93)).cell? ⟨m, 37, Option.none⟩ = some (.int .u8 0) := by rw [cell_of_row _ _ 37 _ _ _ (on_blk_mul h0)]; kernel_rfl
  have h1 := h0.setCell (i := 37) (.int .u8 2)
  have hL1 : ∀ j v, (#[.bool false, .int .i64 0, .slice Option.none 0 0] : Array Value)[j]? = some v → ((mK q).setIfInBounds 37 (.int .u8 2))[44 + j]? = some v := by
    intro j v hj
    match j, hj with
    | 0, hj => rw [← hj]; rfl
    | 1, hj => rw [← hj]; rfl
    | 2, hj => rw [← hj]; rfl
    | n + 3, hj => simp at hj
  have h47 : ((mK q).setIfInBounds 37 (.int .u8 2))[47]? = some nV := rfl
  generalize hM1 : (mK q).setIfInBounds 37 (.int .u8 2) = M1 at *
  clear hM1
  have H2 := hide (h1.alloc' (.cells #[.int .u32 1024] 29))
  have S2 := hide ((((Str.refl w).alloc (.cells #[.int .u8 0, .int .u8 0, nV] 93)).setCell ⟨m, 37, Option.none⟩ (.int .u8 2)).alloc (.cells #[.int .u32 1024] 29))
  have hN := numbers_any _ [1024] _ (words1 ((w.alloc (.cells #[.int .u8 0, .int .u8 0, nV] 93)).setCell ⟨m, 37, Option.none⟩ (.int .u8 2)) 1024 (by decide)) (by decide)
  rw [show ((w.alloc (.cells #[.int .u8 0, .int .u8 0, nV] 93)).setCell ⟨m, 37, Option.none⟩ (.int .u8 2)).heap.size = w.heap.size + 1 by simp] at hN
  have hN := hide hN
  have HL1 := hide hL1
  have H47 := hide h47
  have hl1 : (numsB [1024]).length = 4 := by rfl
  have hl2 : (numsB [0, crcUpd 0 []]).length = 8 := by rw [numsB_len]; rfl
  have Hl1 := hide hl1
  have Hl2 := hide hl2
  clear h h0 h1 hL1 h47 hl1 hl2
  go_enter Tryz.func86, Tryz.ntmps86
  go_wp2_with fail
  generalize ((w.alloc (.cells #[.int .u8 0, .int .u8 0, nV] 93)).setCell ⟨m, 37, Option.none⟩ (.int .u8 2)).alloc (.cells #[.int .u32 1024] 29) = w2 at *
  generalize hg : w.heap.size = g at *
  have Hg := hide hg
  clear hg
  refine hN.out.mono ?_
  clear hN
  rintro e w3 ⟨v1, rfl, ho, hs3⟩
  have h3 := on_all_to ho H2.out
  have S3 := hide (S2.out.trans hs3)
  generalize hq1 : numsB [1024] = l1 at *
  have h3m := h3
  rw [SP.mul_left_comm] at h3m
  have hR := hide (received_2 m M1 _ w3 h3m HL1.out H47.out)
  have H3 := hide h3
  obtain ⟨oa1, oc1, rfl, _, _, _, _⟩ := own_value h3
  clear ho hs3 h3 h3m
  go_wp2_with fail
  refine hR.out.mono ?_
  clear hR
  rintro e w4 ⟨v2, rfl, ho, hs4⟩
  have h4 := on_all_to ho H3.out
  have S4 := hide (S3.out.trans hs4)
  generalize hq2 : numsB [0, crcUpd 0 []] = l2 at *
  have Hb2 := hide (own_bytes h4)
  rw [SP.mul_left_comm] at h4
  have Hn2 := hide h4
  obtain ⟨oa2, oc2, rfl, _, _, _, _⟩ := Hb2.out
  clear ho hs4 h4
  go_wp2_with (at_builtin; refine wpList_append_bytes rfl _ _ 22 rfl 5 hub hi8 _ l1 l2 rfl Hn2.out _ rfl Hb2.out (by have := Hl1.out; have := Hl2.out; simp; omega) ?_; intro v5 w5 ho5 hs5; have Hl3 := hide (show (l1 ++ l2).length = 12 by have := Hl1.out; have := Hl2.out; simp; omega); generalize l1 ++ l2 = l3 at *; obtain ⟨oa5, oc5, rfl, _, _, _, _⟩ := own_value ho5; have Ho5 := hide (show (ownR (.slice oa5 l3.length oc5) l3 * (blk m (.cells M1 127 (0, 0)) * (blk g (.cells #[.int .u8 0, .int .u8 0, nV] 93 (0, 0)) * F))).on w5 from (SP.le.mul (SP.le.refl _) (SP.le_right _ _)).on ho5); have S5 := hide (S4.out.trans hs5); clear ho5 hs5)
  have hE := hide (oanswer_any 6 1 oa5 l3.length oc5 w5)
  go_wp2_with fail
  refine hE.out.mono ?_
  clear hE
  rintro e w8 ⟨rfl, hb⟩
  have h8 := Ho5.out.below hb
  rw [show ∀ A B C D : SP, A * (B * (C * D)) = C * (A * (B * D)) from fun A B C D => by ac_rfl] at h8
  have H8 := hide h8
  have g8 := hide (on_blk_mul h8)
  have S8 := hide (S5.out.trans (Str.below hb))
  clear hb h8
  have hone8 : (rsC 6 1 (.slice oa5 l3.length oc5)).all (·.oneCell') = true := by simp [Value.oneCell', vb]
  have H9 := hide (H8.out.setRow (rsC 6 1 (.slice oa5 l3.length oc5)))
  have S9 := hide (S8.out.setRow g (rsC 6 1 (.slice oa5 l3.length oc5)))
  go_wp2_with (refine wpList_store_row rfl _ _ _ rfl g (rsC 6 1 (.slice oa5 l3.length oc5)) rfl rfl _ _ g8.out hs rfl hone8 ?_)
  refine bodyPost_ret (v := .agg (rsC 6 1 (.slice oa5 l3.length oc5))) (results_cell_row Tryz.results86 _ _ g _ (rsC 6 1 (.slice oa5 l3.length oc5)) (0, 0) _ rfl (setRow_heap_same _ _ _ _ _ _ g8.out) hu rfl hs) rfl ?_
  exact ⟨6, 1, _, l3, M1, rfl, H47.out, (by have := Hl3.out; omega), (SP.le.mul (SP.le.refl _) (SP.le.mul (SP.le.refl _) (SP.le.refl _))).on H9.out.right, S9.out⟩

set_option maxRecDepth 100000 in
set_option maxHeartbeats 16000000 in
theorem choose_no (m q : Nat) (k : UInt8) (h1 : k ≠ 1) (h2 : k ≠ 2) (F : SP) (w : World) (h : (blk m (.cells (mK q) 127 (0, 0)) * F).on w) :
    Calls Tryz.prog 86 #[.pointer (some ⟨m, 0, Option.none⟩), vb k] w (AnEnd m F w) := by
  have hum := Tryz.underlying127
  have hu := Tryz.underlying93
  have hz := zr_hz
  have hs : (Tryz.prog.info? 93).map (·.size) = some 3 := by kernel_rfl
  have h0 := h.alloc (.cells #[.int .u8 0, .int .u8 0, nV] 93)
  rw [SP.mul_left_comm] at h0
  have H0 := hide (own_nil 5 1 h0)
  have H47 : Hid ((mK q)[47]? = some nV) := hide rfl
  have S0 := hide ((Str.refl w).alloc (.cells #[.int .u8 0, .int .u8 0, nV] 93))
  have n1 : (((k.toNat : Nat) : Int) == 1) = false := by simpa using bne_u8 h1
  have n2 : (((k.toNat : Nat) : Int) == 2) = false := by simpa using bne_u8 h2
  clear h h0
  generalize mK q = M1 at *
  go_enter Tryz.func86, Tryz.ntmps86
  have hE := hide (oanswer_any 6 7 Option.none 0 0 (w.alloc (.cells #[.int .u8 0, .int .u8 0, nV] 93)))
  go_wp2_with fail
  generalize w.alloc (.cells #[.int .u8 0, .int .u8 0, nV] 93) = w0 at *
  generalize hg : w.heap.size = g at *
  have Hg := hide hg
  clear hg

  refine hE.out.mono ?_
  clear hE
  rintro e w8 ⟨rfl, hb⟩
  have h8 := H0.out.below hb
  rw [show ∀ A B C D : SP, A * (B * (C * D)) = C * (A * (B * D)) from fun A B C D => by ac_rfl] at h8
  have H8 := hide h8
  have g8 := hide (on_blk_mul h8)
  have S8 := hide (S0.out.trans (Str.below hb))
  clear hb h8
  have hone8 : (rsC 6 7 (.slice Option.none 0 0)).all (·.oneCell') = true := by simp [Value.oneCell', vb]
  have H9 := hide (H8.out.setRow (rsC 6 7 (.slice Option.none 0 0)))
  have S9 := hide (S8.out.setRow g (rsC 6 7 (.slice Option.none 0 0)))
  go_wp2_with (refine wpList_store_row rfl _ _ _ rfl g (rsC 6 7 (.slice Option.none 0 0)) rfl rfl _ _ g8.out hs rfl hone8 ?_)
  refine bodyPost_ret (v := .agg (rsC 6 7 (.slice Option.none 0 0))) (results_cell_row Tryz.results86 _ _ g _ (rsC 6 7 (.slice Option.none 0 0)) (0, 0) _ rfl (setRow_heap_same _ _ _ _ _ _ g8.out) hu rfl hs) rfl ?_
  exact ⟨6, 7, _, [], M1, rfl, H47.out, (by decide), (SP.le.mul (SP.le.refl _) (SP.le.mul (SP.le.refl _) (SP.le.refl _))).on H9.out.right, S9.out⟩
end Go.Proofs.YtgmpmlneoiagdaaGreatDoor
