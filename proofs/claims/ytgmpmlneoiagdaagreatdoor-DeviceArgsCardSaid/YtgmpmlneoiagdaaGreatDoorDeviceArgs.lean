/- The law DeviceArgs: no flash, too little, and no device. -/
import Derived.Test.YtgmpmlneoiagdaaGreatDoorGDvD
import Derived.Test.YtgmpmlneoiagdaaGreatDoorGFl
import Derived.Test.YtgmpmlneoiagdaaGreatDoorFlashNils
import Derived.Test.YtgmpmlneoiagdaaGreatDoorCards
import Derived.Test.YtgmpmlneoiagdaaGreatDoorTie
import Derived.Deep.DeepHandedRow
import Derived.Lib.LaidTab
namespace Go.Proofs.YtgmpmlneoiagdaaGreatDoor
open Go.ChangeShapes Go.WideShapes Go.ChangeAt Go.RowKit
set_option linter.unusedVariables false
set_option linter.unusedSimpArgs false

theorem lens_of_device {W : World} (hL : laidMetH Tryz.prog Rows.deviceArgsRow.laid W) : Lens W := by
  have h0 : laidMetH Tryz.prog (Rows.deviceArgsRow.laid) W := hL
  rw [MakeChecks.laidMetH_plain _ _ _ (by kernel_rfl)] at h0
  have h1 := laidMet.filter (fun x => x.1 == "bosun/packet.lengths") h0
  refine lens_of_laid ?_
  rw [MakeChecks.laidMetH_plain _ _ _ (by kernel_rfl)]
  exact h1
theorem lens_all {w : World} (hL : Lens w) : ∀ W, (all w).on W → Lens W := fun W hW i hi => by
  have h9 := hL i hi
  obtain ⟨x, hx, hy⟩ := hW
  have hb := World.block_lt_of_cell? _ _ h9
  rw [← h9]
  unfold World.cell?
  have : W.heap[1]? = w.heap[1]? := by
    have h1 := hy _ hb
    cases hq : w.heap[1]? with
    | none => rw [Array.getElem?_eq_getElem hb] at hq; cases hq
    | some o => exact hx _ _ (h1.trans hq)
  simp only [this]
theorem um60 (t : Int) : ∃ k : Nat, k < 60 ∧ (IntKind.u64.wrap t).tmod 60 = (k : Int) := by
  have h0 : 0 ≤ IntKind.u64.wrap t := by rw [IntKind.wrap_u64]; omega
  refine ⟨((IntKind.u64.wrap t) % 60).toNat, by omega, ?_⟩
  rw [Int.tmod_eq_emod_of_nonneg h0]
  omega
set_option maxRecDepth 100000 in
set_option maxHeartbeats 16000000 in
theorem walk_DeviceArgs (w : World) (hL : laidMetH Tryz.prog Rows.deviceArgsRow.laid w) (a0 : Int) (l0 : -9223372036854775808 ≤ a0) (u0 : a0 ≤ 9223372036854775807) (v1 : Value) (l1 : List UInt8) (b1 : IsBytes w v1 l1) :
    Calls Tryz.prog 4 #[.int .i64 a0, v1] w fun e w' => e = .returned (.bool true) ∧ Below w.heap.size w w' := by
  have hLens := hide (lens_of_device hL)
  clear hL
  have hu8s := Tryz.underlying22
  have hu8 := Tryz.underlying5
  have hui := Tryz.underlying3
  have huu := Tryz.underlying48
  have HB := hide b1
  obtain ⟨a, c, rfl, hc, hm, hlay, _⟩ := b1
  clear hlay
  have hLv := lives21_any w hLens.out
  go_enter Tryz.func4, Tryz.ntmps4
  go_wp2_with fail
  refine hLv.mono ?_
  clear hLv
  rintro e w1 ⟨rfl, hb⟩
  have B1 := hide hb
  have L1 := hide (hLens.out.below hb)
  clear hb
  by_cases hl : 200 < l1.length
  · have hlI : decide ((200 : Int) < (l1.length : Int)) = true := by simp; omega
    have hLv := lives21_any w1 L1.out
    go_wp2_with fail
    refine hLv.mono ?_
    clear hLv
    rintro e w2 ⟨rfl, hb⟩
    have B2 := B1.out.trans (hb.mono B1.out.size)
    go_wp2_with fail
    go_ret
    exact ⟨rfl, B2⟩
  have hlI : decide ((200 : Int) < (l1.length : Int)) = false := by simp; omega
  obtain ⟨k, hk, hqk⟩ := um60 a0
  have hkw : wrap64 (k : Int) = (k : Int) := IntWalk.wrap64_in _ (by omega)
  have hqq : wrap64 ((IntKind.u64.wrap a0).tmod 60) = (k : Int) := by rw [hqk, hkw]
  have hkn : wrap64 (1 + (k : Int)) = ((1 + k : Nat) : Int) := by rw [IntWalk.wrap64_in _ (by omega)]; omega
  have hN := hide (new_any (1 + k) (by omega) (by omega) w1)
  go_wp2_with fail
  refine hN.out.mono ?_
  clear hN
  rintro e w2 ⟨v, rfl, ho, hs1⟩
  obtain ⟨p, rfl, h2⟩ := newQ.out ho
  have hok := hide (FlS.new_ok (1 + k) (by omega) (by omega))
  have hlen : (FlS.new (1 + k)).B.length = (1 + k) * 256 := by simp [FlS.new]
  have B2 := hide (B1.out.trans ((all_below h2.right hs1).mono B1.out.size))
  have L2 := hide (L1.out.below (all_below h2.right hs1))
  have hD := dnew_small fnil 0 (by decide) w2 (fun X _ => size_nil 0 0 X) true
  rw [limC_lit] at hD
  clear ho hqq hkn hqk hkw
  go_wp2_with fail
  refine hD.mono ?_
  clear hD
  rintro e w3 ⟨rfl, hb⟩
  have H3 := hide (h2.below hb)
  have S3 := hide (hs1.trans (Str.below hb))
  have B3 := hide (B2.out.trans (hb.mono B2.out.size))
  have L3 := hide (L2.out.below hb)
  clear hb h2 B2 L2 hs1
  by_cases hk2 : k < 33
  · have hsm : decide (((FlS.new (1 + k)).B.length : Int) < 8704) = true := by simp; omega
    have hD := dnew_small (fptr p) (FlS.new (1 + k)).B.length (by omega) w3 (fun X hX => size_any p _ _ X (H3.out.below hX) hok.out) true
    rw [limC_lit] at hD
    go_wp2_with fail
    refine hD.mono ?_
    clear hD
    rintro e w4 ⟨rfl, hb⟩
    have H4 := hide (H3.out.below hb)
    have B4 := hide (B3.out.trans (hb.mono B3.out.size))
    clear hb
    have hR := reset_none true w4
    have hT := tick_none w4
    have hS := state_none w4
    have hZ := size_any p _ _ w4 H4.out hok.out
    have hF := feed_none _ _ w4 (HB.out.below B4.out) (by omega)
    go_wp2_with fail
    refine hR.mono ?_
    clear hR
    rintro e _ ⟨⟨v, rfl⟩, rfl⟩
    go_wp2_with fail
    refine hT.mono ?_
    clear hT
    rintro e _ ⟨⟨v', rfl⟩, rfl⟩
    go_wp2_with fail
    refine hS.mono ?_
    clear hS
    rintro e _ ⟨rfl, rfl⟩
    go_wp2_with fail
    refine hZ.mono ?_
    clear hZ
    rintro e _ ⟨rfl, rfl⟩
    go_wp2_with fail
    refine hF.mono ?_
    clear hF
    rintro e w5 ⟨rfl, hb⟩
    have B5 := B4.out.trans (hb.mono B4.out.size)
    go_wp2_with fail
    go_ret
    exact ⟨rfl, B5⟩
  have hsm : decide (((FlS.new (1 + k)).B.length : Int) < 8704) = false := by simp; omega
  have hsm2 : decide ((1 + (k : Int)) * 256 < 8704) = false := by simp; omega
  have hD := dnew_calm p _ _ w3 H3.out (calm_new (1 + k) (by omega) (by omega)) rfl true (fun e => by cases e) (lens_all L1.out)
  rw [limC_lit] at hD
  go_wp2_with fail
  refine hD.mono ?_
  clear hD
  rintro e w4 ⟨d, dp, m, q, rfl, h4, hs4⟩
  have B4 := hide (B1.out.trans ((all_below h4.right.right.right.right.right (S3.out.trans hs4)).mono B1.out.size))
  rw [show ∀ A B C D E F9 : SP, A * (B * (C * (D * (E * F9)))) = E * (A * (B * (C * (D * F9)))) from fun A B C D E F9 => by ac_rfl] at h4
  have hR := reset_none true w4
  have hT := tick_none w4
  have hS := state_none w4
  have hZ := size_any p _ _ w4 h4 hok.out
  have hF := feed_none _ _ w4 (HB.out.below B4.out) (by omega)
  clear h4 hs4
  go_wp2_with fail
  refine hR.mono ?_
  clear hR
  rintro e _ ⟨⟨v, rfl⟩, rfl⟩
  go_wp2_with fail
  refine hT.mono ?_
  clear hT
  rintro e _ ⟨⟨v', rfl⟩, rfl⟩
  go_wp2_with fail
  refine hS.mono ?_
  clear hS
  rintro e _ ⟨rfl, rfl⟩
  go_wp2_with fail
  refine hZ.mono ?_
  clear hZ
  rintro e _ ⟨rfl, rfl⟩
  go_wp2_with fail
  refine hF.mono ?_
  clear hF
  rintro e w5 ⟨rfl, hb⟩
  have B5 := B4.out.trans (hb.mono B4.out.size)
  go_wp2_with fail
  go_ret
  exact ⟨rfl, B5⟩
namespace lawDeviceArgs
theorem own : ownKnob Tryz.prog.godebug = Option.none := by kernel_rfl
theorem laidOut : laidOutB Tryz.prog = true := by kernel_rfl

set_option maxRecDepth 100000 in
theorem contract (H : Type) (enc : TypeId × Value → H) (W : World) (base : Nat) (args : Array Value) (ds gs : List (DataW H)) (before : List MemPlace)
    (hval0 : ∀ (j : Nat) t v, Tryz.f4.params[j]? = some t → args[j]? = some v → Value.okWide Tryz.prog W .any base t v)
    (hW : DataW.Whole enc Tryz.prog Tryz.f4.params.toList Rows.deviceArgsSpec.vars false W args.toList ds gs before) (hsz : (DataW.weightsEach Tryz.prog (Tryz.f4.params.toList ++ (OpenSpec.ofChange Rows.deviceArgsSpec).bare.plain.varTypes Tryz.prog) (ds ++ gs)).all (· ≤ reachBytes) = true) (hL : laidMetH Tryz.prog Rows.deviceArgsRow.laid W) :
    Calls Tryz.prog 4 args W fun e W' => ∃ v, e = .returned v ∧ Rows.deviceArgsSpec.post enc Tryz.prog Tryz.f4 false true false false W args v W' := by
  have hval : ∀ (j : Nat) t v, Tryz.f4.params[j]? = some t → args[j]? = some v → Value.okWide Tryz.prog W .any base t v := hval0
  have hW' := hW
  obtain ⟨p, q, hA0, hV, rfl, hfz, hnd⟩ := hW
  have hA : DataW.TrodAll enc Tryz.prog W 0 (fun _ => true) true Tryz.f4.params.toList args.toList ds p := hA0
  rw [Tryz.params4] at hA hval
  obtain ⟨v0, vs0, d0, ds0, p0, q0, hargs, rfl, rfl, h0, r0⟩ := trodAll_cons hA
  obtain ⟨v1, vs1, d1, ds1, p1, q1, rfl, rfl, rfl, h1, r1⟩ := trodAll_cons r0
  obtain ⟨rfl, rfl, rfl⟩ := trodAll_nil r1
  obtain rfl : args = #[v0, v1] := by cases args; simp_all
  obtain ⟨rfl, rfl⟩ := trodVars_none hV
  have k0 := h0
  have lt0 : ∀ x ∈ p0, x.block < W.heap.size := by obtain ⟨m, hm⟩ := k0; exact DataW.trod_lt m _ _ _ hm
  obtain ⟨a0, rfl, rfl, rfl, w0⟩ := open_int Tryz.underlying3 (hval 0 3 v0 rfl rfl) h0
  obtain ⟨l0, u0⟩ := wf_i64 w0
  have k1 := h1
  have lt1 : ∀ x ∈ p1, x.block < W.heap.size := by obtain ⟨m, hm⟩ := k1; exact DataW.trod_lt m _ _ _ hm
  obtain ⟨l1, b1, n1⟩ := open_bytes Tryz.underlying22 Tryz.underlying5 (by kernel_rfl) (hval 1 22 v1 rfl rfl) h1
  clear hA0 hval0 hsz
  refine (walk_DeviceArgs W hL a0 l0 u0 v1 l1 b1).mono fun e W' ⟨he, bel⟩ => ?_
  subst he
  exact ⟨_, rfl, _, _, _, [], _, [], hW', trodAll_mk1 (shut_bool Tryz.underlying4 _), (trodAll_cons_mk (shut_int Tryz.underlying3 w0) (trodAll_cons_mk (Below.trod laidOut (by kernel_rfl) (of_decide_eq_true (by kernel_rfl)) k1 bel lt1) trodAll_mk0)), rfl, bel.frame _, fun h => by cases h⟩

/-- a world for the witness: the settled one, the listed variables holding what their initialisers lay -/
def litCells (d : DataW Unit) : Array Value := match d with
  | .agg l => (l.filterMap fun x => match x with | .lit (.int k n) => some (Value.int k n) | _ => Option.none).toArray
  | _ => #[]
noncomputable def laidWorld (os : Os) : World :=
  { World.holding Tryz.prog os ⟨#[], #[], []⟩ with heap := (((((((((((((((World.holding Tryz.prog os ⟨#[], #[], []⟩).heap.modify 8 fun
      | .cells _ t frozen => .cells (litCells Rows.laid_bosun_field_modulus) t frozen
      | o => o).modify 9 fun
      | .cells _ t frozen => .cells (litCells Rows.laid_bosun_field_lessTwo) t frozen
      | o => o).modify 10 fun
      | .cells _ t frozen => .cells (litCells Rows.laid_bosun_field_eighth) t frozen
      | o => o).modify 11 fun
      | .cells _ t frozen => .cells (litCells Rows.laid_bosun_field_rootOfMinusOne) t frozen
      | o => o).modify 12 fun
      | .cells _ t frozen => .cells (litCells Rows.laid_bosun_longsum_first) t frozen
      | o => o).modify 13 fun
      | .cells _ t frozen => .cells (litCells Rows.laid_bosun_longsum_rounds) t frozen
      | o => o).modify 6 fun
      | .cells _ t frozen => .cells (litCells Rows.laid_bosun_scalar_order) t frozen
      | o => o).modify 5 fun
      | .cells _ t frozen => .cells (litCells Rows.laid_bosun_curve_d) t frozen
      | o => o).modify 7 fun
      | .cells _ t frozen => .cells (litCells Rows.laid_bosun_curve_dTwice) t frozen
      | o => o).modify 3 fun
      | .cells _ t frozen => .cells (litCells Rows.laid_bosun_curve_baseX) t frozen
      | o => o).modify 4 fun
      | .cells _ t frozen => .cells (litCells Rows.laid_bosun_curve_baseY) t frozen
      | o => o).modify 0 fun
      | .cells _ t frozen => .cells (litCells Rows.laid_bosun_shortsum_first) t frozen
      | o => o).modify 2 fun
      | .cells _ t frozen => .cells (litCells Rows.laid_bosun_shortsum_rounds) t frozen
      | o => o).modify 1 fun
      | .cells _ t frozen => .cells (litCells Rows.laid_bosun_packet_lengths) t frozen
      | o => o) }
theorem laid_met (os : Os) : laidMet Tryz.prog Rows.deviceArgsRow.laid ((laidWorld os).forCall (fun _ _ => 0) ⟨#[], #[.int .i64 0, .slice Option.none 0 0], []⟩).memory :=
  laidMet_of_run' 8 (by kernel_rfl) (by kernel_rfl)
theorem reads (os : Os) {H : Type} (enc : TypeId × Value → H) : ∃ places, DataW.whole enc Tryz.prog ((laidWorld os).forCall (fun _ _ => 0) ⟨#[], #[.int .i64 0, .slice Option.none 0 0], []⟩).memory Tryz.f4.params.toList Rows.deviceArgsSpec.vars false (#[.int .i64 0, .slice Option.none 0 0] : Array Value).toList 8 = some ([.lit (.int .i64 0), .nil], [], places) :=
  ⟨[], by kernel_rfl⟩

set_option maxRecDepth 100000 in
theorem lifted (os : Os) (started : os.Started) (H : Type) (enc : TypeId × Value → H) (F : Stop.Interp) :
    ReturnsInHanded {} Tryz.checked os 4 .any ((OpenSpec.ofChange Rows.deviceArgsSpec).preRow enc Tryz.prog Tryz.f4 Rows.deviceArgsRow.domain false Rows.deviceArgsRow.laid) (((OpenSpec.ofChange Rows.deviceArgsSpec).at F).post enc Tryz.prog Tryz.f4 false true false false) := by
  obtain ⟨places, hx⟩ := reads os enc
  refine returnsInHanded_of_row (C := Tryz.checked) (s := OpenSpec.ofChange Rows.deviceArgsSpec) own started (by kernel_rfl) Tryz.func4
    (witness_row_at (enc := enc) (C := Tryz.checked) false (laidWorld os) #[.int .i64 0, .slice Option.none 0 0] rfl (by kernel_rfl) (by kernel_rfl) (by kernel_rfl)
      (OpenSpec.preRow_of_cond 8 hx (by kernel_rfl) (fun k hk => by cases hk) (by kernel_rfl) (laid_met os))) ?_
  intro W base args ds gs before hval hW _ _ hsz hL _ _
  exact contract H enc W base args ds gs before hval hW hsz hL

theorem said : Rows.DeviceArgsSaid :=
  OpenClaim.holds_of_cond 4 Tryz.f4 rfl rfl rfl rfl rfl rfl rfl ⟨rfl, rfl, rfl, rfl, rfl⟩ rfl rfl rfl rfl rfl (by kernel_rfl) Tryz.func4 (by kernel_rfl)
    (of_decide_eq_true (by kernel_rfl)) (by unfold Func.isWrapper; first | (rw [if_pos (by decide +kernel)]; kernel_rfl) | (rw [if_neg (by decide +kernel)]; exact ⟨rfl, rfl⟩))
    (fun os started H enc _ F => by rw [OpenClaim.pre_eq_preRow]; exact lifted os started H enc F)

theorem plain (f : FuncId) (fn : Func) (hf : Tryz.pinned.checked.prog.funcNamed "bosun/bosunlaw21.DeviceArgs" = some f) (hfn : Tryz.pinned.checked.prog.funcs[f]? = some fn) :
    false = Tryz.pinned.checked.prog.looks [] ∧ ∀ (j : Nat) t, fn.params[j]? = some t → Tryz.pinned.checked.prog.wantsStandIn t = false := by
  obtain rfl : f = 4 := Option.some.inj ((show Tryz.prog.funcNamed "bosun/bosunlaw21.DeviceArgs" = some 4 by kernel_rfl).symm.trans hf) |>.symm
  obtain rfl : fn = Tryz.f4 := (Option.some.inj (Tryz.func4.symm.trans hfn)).symm
  refine ⟨by kernel_rfl, fun j t ht => ?_⟩
  rw [Tryz.params4] at ht
  have hm : t ∈ [3, 22] := by simpa using Array.mem_of_getElem? ht
  have hall : ∀ t ∈ [3, 22], Tryz.prog.wantsStandIn t = false := by
    intro t ht
    simp only [List.mem_cons, List.not_mem_nil, or_false] at ht
    rcases ht with rfl | rfl <;> kernel_rfl
  exact hall t hm

theorem proved : Rows.DeviceArgsCardSaid :=
  Claim7.holds_tied_plain_at .later [] _ _ _ _ said (fun _ h => by cases h) (by kernel_rfl) (fun _ h => by cases h) deviceArgs_row_tie rfl ⟨rfl, rfl⟩ (by kernel_rfl) rfl plain (by kernel_rfl)
end lawDeviceArgs
end Go.Proofs.YtgmpmlneoiagdaaGreatDoor
