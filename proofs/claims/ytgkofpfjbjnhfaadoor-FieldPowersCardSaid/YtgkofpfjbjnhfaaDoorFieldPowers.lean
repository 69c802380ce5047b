/- The law FieldPowers: any number to any power, and what makes 1 with it. -/
import Derived.Test.YtgkofpfjbjnhfaaDoorFeLaw
import Derived.Test.YtgkofpfjbjnhfaaDoorCards
import Derived.Test.YtgkofpfjbjnhfaaDoorTie
import Derived.Deep.DeepHandedRow
namespace Go.Proofs.YtgkofpfjbjnhfaaDoor
namespace Fe
open Go.ChangeShapes Go.WideShapes Go.ChangeAt Go.RowKit
set_option linter.unusedVariables false
set_option linter.unusedSimpArgs false

set_option maxRecDepth 100000 in
set_option maxHeartbeats 8000000 in
theorem walk_FieldPowers (w : World) (hL : laidMetH Tryd.prog Rows.fieldPowersRow.laid w) (a : Nat) (ha : a < 18446744073709551616 ^ 4) (e : Nat) (he : e < 18446744073709551616 ^ 4) :
    Calls Tryd.prog 4 #[.agg (q4 a), .agg (q4 e)] w fun e w' => e = .returned (.bool true) ∧ Below w.heap.size w w' := by
  obtain ⟨hT, hl⟩ := tab5_of_laid4 hL
  clear hL
  have hu := Tryd.underlying25
  have hz4e := eZero
  have hu4 := Tryd.underlying23
  have hz4 := eZero4
  have hun := Tryd.underlying27
  have hzn := nZero
  have h0 := ((on_all w).alloc (.cells (q4 (a)) 23)).alloc (.cells (q4 (e)) 23)
  have s0 := ((Str.refl w).alloc (.cells (q4 (a)) 23)).alloc (.cells (q4 (e)) 23)
  try simp only [World.size_alloc] at h0
  have H1 := hide h0
  have S1 := hide s0
  clear h0 s0
  have hm : a % P5 < P5 := Nat.mod_lt _ P5_pos
  have h4 := P5_lt
  have h255 := P5_255lt
  have b1 := pwr_lt (a % P5) e 256
  have b2 := pwr_lt (a % P5) (P5 - 2) 256
  have Hn := hide (fun X => num_any a ha X)
  have Hc := hide (fun X h => power_any (a % P5) e (by omega) he X h)
  have Hcr := hide (fun X => rpower_any (a % P5) e (by omega) he X)
  have Hi := hide (fun X h h2 => invert_any (a % P5) (by omega) X h h2)
  have Hir := hide (fun X => rinvert_any (a % P5) hm X)
  have hk1 := fun X => like_any (pwr (a % P5) e 256) (pwr (a % P5) e 256) (by omega) b1 X
  have hk2 := fun X => like_any (pwr (a % P5) (P5 - 2) 256) (pwr (a % P5) (P5 - 2) 256) (by omega) b2 X
  simp only [decide_true] at hk1 hk2
  have Hk1 := hide hk1
  have Hk2 := hide hk2
  have Hlv := hide (fun X h => lives_any X h)
  clear hm h4 h255 b1 b2 hk1 hk2 ha he
  have HsA4 := hide (eInfo4 (a))
  have HoA4 := hide (eOne (a))
  have HzA4 := hide (eSize 0 (a))
  have HsE4 := hide (eInfo4 (e))
  have HoE4 := hide (eOne (e))
  have HzE4 := hide (eSize 0 (e))
  have HsX4 := hide (eInfo (a % P5))
  have HoX4 := hide (eOne (a % P5))
  have HzX4 := hide (eSize 0 (a % P5))
  have HsXn := hide (nInfo (a % P5))
  have HoXn := hide (nOne (a % P5))
  have HzXn := hide (nSize 0 (a % P5))
  have HsQ4 := hide (eInfo (pwr (a % P5) e 256))
  have HoQ4 := hide (eOne (pwr (a % P5) e 256))
  have HzQ4 := hide (eSize 0 (pwr (a % P5) e 256))
  have HsQn := hide (nInfo (pwr (a % P5) e 256))
  have HoQn := hide (nOne (pwr (a % P5) e 256))
  have HzQn := hide (nSize 0 (pwr (a % P5) e 256))
  have HsI4 := hide (eInfo (pwr (a % P5) (P5 - 2) 256))
  have HoI4 := hide (eOne (pwr (a % P5) (P5 - 2) 256))
  have HzI4 := hide (eSize 0 (pwr (a % P5) (P5 - 2) 256))
  have HsIn := hide (nInfo (pwr (a % P5) (P5 - 2) 256))
  have HoIn := hide (nOne (pwr (a % P5) (P5 - 2) 256))
  have HzIn := hide (nSize 0 (pwr (a % P5) (P5 - 2) 256))
  generalize hA4 : q4 (a) = A4 at *
  have HA4 := hide hA4
  clear hA4
  generalize hE4 : q4 (e) = E4 at *
  have HE4 := hide hE4
  clear hE4
  generalize hX4 : q4 (a % P5) = X4 at *
  have HX4 := hide hX4
  clear hX4
  generalize hXn : n17 (a % P5) = Xn at *
  have HXn := hide hXn
  clear hXn
  generalize hQ4 : q4 (pwr (a % P5) e 256) = Q4 at *
  have HQ4 := hide hQ4
  clear hQ4
  generalize hQn : n17 (pwr (a % P5) e 256) = Qn at *
  have HQn := hide hQn
  clear hQn
  generalize hI4 : q4 (pwr (a % P5) (P5 - 2) 256) = I4 at *
  have HI4 := hide hI4
  clear hI4
  generalize hIn : n17 (pwr (a % P5) (P5 - 2) 256) = In at *
  have HIn := hide hIn
  clear hIn
  generalize hZ4 : q4 0 = Z4 at *
  have HZ4 := hide hZ4
  clear hZ4
  generalize hZn : n17 0 = Zn at *
  have HZn := hide hZn
  clear hZn
  go_enter Tryd.func4, Tryd.ntmps4
  go_wp2_with fail
  generalize (w.alloc (.cells A4 23)).alloc (.cells E4 23) = w1 at *
  refine (Hlv.out _ (hT.below (all_below H1.out.right.right S1.out))).mono ?_
  rintro e w2 ⟨rfl, hB⟩
  have H2 := hide (H1.out.below hB)
  have S2 := hide (S1.out.trans (Str.below hB))
  clear hB H1 S1
  have gA := on_blk_mul H2.out.right
  go_wp2_with (first
    | (refine wpList_load_row rfl _ _ rfl (w.heap.size) rfl _ A4 _ _ gA hu4 rfl HsA4.out ?_))
  clear gA
  refine (Hn.out _).mono ?_
  rintro e w3 ⟨rfl, hB⟩
  have H3 := hide (H2.out.below hB)
  have S3 := hide (S2.out.trans (Str.below hB))
  clear hB H2 S2
  have h1 := H3.out.alloc (.cells Z4 25)
  have h2 := h1.alloc (.cells Zn 27)
  simp only [World.size_alloc] at h2
  have gA := on_blk_mul h2.right
  have h3 := st1 h2 (cs := X4)
  have gB := on_blk_mul h3
  have h4 := st0 h3 (cs := Xn)
  have H4 := hide h4
  have S4 := hide ((((S3.out.alloc (.cells Z4 25)).alloc (.cells Zn 27)).setRow w3.heap.size X4).setRow (w3.heap.size + 1) Xn)
  clear h1 h2 h3 h4
  go_wp2_with (first
    | (refine wpList_store_row rfl _ _ _ rfl (w3.heap.size) X4 rfl rfl _ _ gA HsX4.out HzX4.out HoX4.out ?_)
    | (refine wpList_store_row rfl _ _ _ rfl (w3.heap.size + 1) Xn rfl rfl _ _ gB HsXn.out HzXn.out HoXn.out ?_))
  generalize (((w3.alloc (.cells Z4 25)).alloc (.cells Zn 27)).setRow w3.heap.size X4).setRow (w3.heap.size + 1) Xn = w4 at *
  generalize w3.heap.size = p5 at *
  clear gA gB H3 S3
  have hT0 := hide (hT.below (all_below H4.out.right.right.right.right S4.out))
  have hl0 := hide (hl.below (all_below H4.out.right.right.right.right S4.out))
  go_wp2_with fail
  refine wp_region_vs [isV (.agg X4), isV (.agg E4), isV (.agg Q4), isV (.agg Xn), isV (.agg E4), isV (.agg Qn), isV (.bool true), isV (.bool true), isV (.agg X4), isV (.agg I4), isV (.agg Xn), isV (.agg In), isV (.bool true), isV (.bool true), isV (.bool true)]
    (by kernel_rfl) (by kernel_rfl) rfl ?keep ?todo ?rest
  case keep => exact ⟨Keep.isV _, Keep.isV _, Keep.isV _, Keep.isV _, Keep.isV _, Keep.isV _, Keep.isV _, Keep.isV _, Keep.isV _, Keep.isV _, Keep.isV _, Keep.isV _, Keep.isV _, Keep.isV _, Keep.isV _, trivial⟩
  case todo =>
    refine ⟨?_, ?_, ?_, ?_, ?_, ?_, ?_, ?_, ?_, ?_, ?_, ?_, ?_, ?_, ?_, trivial⟩
    · intro ev X hT hb hk hf
      have e0 : ev (.tmp 5) = .pointer (some ⟨p5, 0, Option.none⟩) := hk.1
      exact OpOk.load_row _ _ rfl _ e0 _ X4 (0, 0) _ (on_blk_mul (H4.out.below hT).right) hu rfl HsX4.out ⟨rfl, Stay.refl _⟩
    · intro ev X hT hb hk hf
      have e0 : ev (.tmp 3) = .pointer (some ⟨w.heap.size + 1, 0, Option.none⟩) := hk.1
      exact OpOk.load_row _ _ rfl _ e0 _ E4 (0, 0) _ (on_blk_mul (H4.out.below hT).right.right) hu4 rfl HsE4.out ⟨rfl, Stay.refl _⟩
    · intro ev X hT hb hk hf
      have e0 : ev (.tmp 14) = .agg X4 := hf.1
      have e1 : ev (.tmp 15) = .agg E4 := hf.2.1
      refine OpOk.enters (f := 25) (args := #[.agg X4, .agg E4]) (W' := X) (by simp [execOp, resolve, invoke, e0, e1, hb.1, hb.2.1, go_sem]) ((Hc.out X (hT0.out.below hT)).mono ?_)
      rintro e _ ⟨rfl, hB⟩
      exact ⟨_, rfl, rfl, hB⟩
    · intro ev X hT hb hk hf
      have e0 : ev (.tmp 6) = .pointer (some ⟨p5 + 1, 0, Option.none⟩) := hk.1
      exact OpOk.load_row _ _ rfl _ e0 _ Xn (0, 0) _ (on_blk_mul (H4.out.below hT)) hun rfl HsXn.out ⟨rfl, Stay.refl _⟩
    · intro ev X hT hb hk hf
      have e0 : ev (.tmp 3) = .pointer (some ⟨w.heap.size + 1, 0, Option.none⟩) := hk.1
      exact OpOk.load_row _ _ rfl _ e0 _ E4 (0, 0) _ (on_blk_mul (H4.out.below hT).right.right) hu4 rfl HsE4.out ⟨rfl, Stay.refl _⟩
    · intro ev X hT hb hk hf
      have e0 : ev (.tmp 17) = .agg Xn := hf.1
      have e1 : ev (.tmp 18) = .agg E4 := hf.2.1
      refine OpOk.enters (f := 26) (args := #[.agg Xn, .agg E4]) (W' := X) (by simp [execOp, resolve, invoke, e0, e1, hb.1, hb.2.1, go_sem]) ((Hcr.out X).mono ?_)
      rintro e _ ⟨rfl, hB⟩
      exact ⟨_, rfl, rfl, hB⟩
    · intro ev X hT hb hk hf
      have e0 : ev (.tmp 16) = .agg Q4 := hf.1
      have e1 : ev (.tmp 19) = .agg Qn := hf.2.1
      refine OpOk.enters (f := 16) (args := #[.agg Q4, .agg Qn]) (W' := X) (by simp [execOp, resolve, invoke, e0, e1, hb.1, hb.2.1, go_sem]) ((Hk1.out X).mono ?_)
      rintro e _ ⟨rfl, hB⟩
      exact ⟨_, rfl, rfl, hB⟩
    · intro ev X hT hb hk hf
      have e0 : ev (.tmp 20) = .bool true := hf.1
      exact OpOk.move rfl e0 ⟨rfl, Stay.refl _⟩
    · intro ev X hT hb hk hf
      refine ⟨true, hf.1, fun _ => ?_, fun h => (h rfl).elim⟩
      have e0 : ev (.tmp 5) = .pointer (some ⟨p5, 0, Option.none⟩) := hk.1
      exact OpOk.load_row _ _ rfl _ e0 _ X4 (0, 0) _ (on_blk_mul (H4.out.below hT).right) hu rfl HsX4.out ⟨rfl, Stay.refl _⟩
    · intro ev X hT hb hk hf
      refine ⟨true, hf.2.1, fun _ => ?_, fun h => (h rfl).elim⟩
      have e0 : ev (.tmp 22) = .agg X4 := hf.1
      refine OpOk.enters (f := 27) (args := #[.agg X4]) (W' := X) (by simp [execOp, resolve, invoke, e0, hb.1, hb.2.1, go_sem]) ((Hi.out X (hT0.out.below hT) (hl0.out.below hT)).mono ?_)
      rintro e _ ⟨rfl, hB⟩
      exact ⟨_, rfl, rfl, hB⟩
    · intro ev X hT hb hk hf
      refine ⟨true, hf.1, fun _ => ?_, fun h => (h rfl).elim⟩
      have e0 : ev (.tmp 6) = .pointer (some ⟨p5 + 1, 0, Option.none⟩) := hk.1
      exact OpOk.load_row _ _ rfl _ e0 _ Xn (0, 0) _ (on_blk_mul (H4.out.below hT)) hun rfl HsXn.out ⟨rfl, Stay.refl _⟩
    · intro ev X hT hb hk hf
      refine ⟨true, hf.2.2.1, fun _ => ?_, fun h => (h rfl).elim⟩
      have e0 : ev (.tmp 24) = .agg Xn := hf.1
      refine OpOk.enters (f := 28) (args := #[.agg Xn]) (W' := X) (by simp [execOp, resolve, invoke, e0, hb.1, hb.2.1, go_sem]) ((Hir.out X).mono ?_)
      rintro e _ ⟨rfl, hB⟩
      exact ⟨_, rfl, rfl, hB⟩
    · intro ev X hT hb hk hf
      refine ⟨true, hf.2.2.2.1, fun _ => ?_, fun h => (h rfl).elim⟩
      have e0 : ev (.tmp 23) = .agg I4 := hf.1
      have e1 : ev (.tmp 25) = .agg In := hf.2.1
      refine OpOk.enters (f := 16) (args := #[.agg I4, .agg In]) (W' := X) (by simp [execOp, resolve, invoke, e0, e1, hb.1, hb.2.1, go_sem]) ((Hk2.out X).mono ?_)
      rintro e _ ⟨rfl, hB⟩
      exact ⟨_, rfl, rfl, hB⟩
    · intro ev X hT hb hk hf
      have e0 : ev (.tmp 21) = .bool true := hf.1
      have e1 : ev (.tmp 26) = .bool true := hf.2.1
      exact OpOk.run (v := .bool true) (W' := X) (by simp [execOp, e0, e1, hb, hb.1, hb.2.1, hb.2.2, go_sem]) ⟨rfl, Stay.refl _⟩
    · intro ev X hT hb hk hf
      have e0 : ev (.tmp 27) = .bool true := hf.1
      exact OpOk.assign rfl e0 ⟨rfl, Stay.refl _⟩
  case rest =>
    intro X hX
    rintro _ - _ - _ - _ - _ - _ - _ - _ - _ - _ - _ - _ - _ - _ - _ rfl
    have HB := hide (all_below (H4.out.below hX).right.right.right.right (S4.out.trans (Str.below hX)))
    clear hX
    go_wp2
    refine Rest.done ?_
    go_wp2_with fail
    go_ret
    exact ⟨rfl, HB.out⟩
end Fe
open Go.ChangeShapes Go.WideShapes Go.ChangeAt Go.RowKit
theorem walk_FieldPowers (w : World) (hL : laidMetH Tryd.prog Rows.fieldPowersRow.laid w) (a : Nat) (ha : a < 18446744073709551616 ^ 4) (e : Nat) (he : e < 18446744073709551616 ^ 4) :
    Calls Tryd.prog 4 #[.agg (q4 a), .agg (q4 e)] w fun e w' => e = .returned (.bool true) ∧ Below w.heap.size w w' := Fe.walk_FieldPowers w hL a ha e he
namespace lawFieldPowers
theorem own : ownKnob Tryd.prog.godebug = Option.none := by kernel_rfl
theorem laidOut : laidOutB Tryd.prog = true := by kernel_rfl

set_option maxRecDepth 100000 in
theorem contract (H : Type) (enc : TypeId × Value → H) (W : World) (base : Nat) (args : Array Value) (ds gs : List (DataW H)) (before : List MemPlace)
    (hval0 : ∀ (j : Nat) t v, Tryd.f4.params[j]? = some t → args[j]? = some v → Value.okWide Tryd.prog W .any base t v)
    (hW : DataW.Whole enc Tryd.prog Tryd.f4.params.toList Rows.fieldPowersSpec.vars false W args.toList ds gs before) (hsz : (DataW.weightsEach Tryd.prog (Tryd.f4.params.toList ++ (OpenSpec.ofChange Rows.fieldPowersSpec).bare.plain.varTypes Tryd.prog) (ds ++ gs)).all (· ≤ reachBytes) = true) (hL : laidMetH Tryd.prog Rows.fieldPowersRow.laid W) :
    Calls Tryd.prog 4 args W fun e W' => ∃ v, e = .returned v ∧ Rows.fieldPowersSpec.post enc Tryd.prog Tryd.f4 false true false false W args v W' := by
  have hval : ∀ (j : Nat) t v, Tryd.f4.params[j]? = some t → args[j]? = some v → Value.okWide Tryd.prog W .any base t v := hval0
  have hW' := hW
  obtain ⟨p, q, hA0, hV, rfl, hfz, hnd⟩ := hW
  have hA : DataW.TrodAll enc Tryd.prog W 0 (fun _ => true) true Tryd.f4.params.toList args.toList ds p := hA0
  rw [Tryd.params4] at hA hval
  obtain ⟨v0, vs0, d0, ds0, p0, q0, hargs, rfl, rfl, h0, r0⟩ := trodAll_cons hA
  obtain ⟨v1, vs1, d1, ds1, p1, q1, rfl, rfl, rfl, h1, r1⟩ := trodAll_cons r0
  obtain ⟨rfl, rfl, rfl⟩ := trodAll_nil r1
  obtain rfl : args = #[v0, v1] := by cases args; simp_all
  obtain ⟨rfl, rfl⟩ := trodVars_none hV
  have k0 := h0
  have lt0 : ∀ x ∈ p0, x.block < W.heap.size := by obtain ⟨m, hm⟩ := k0; exact DataW.trod_lt m _ _ _ hm
  obtain ⟨s0, rfl, b0⟩ := open_limbs (hval 0 23 v0 rfl rfl) h0
  have k1 := h1
  have lt1 : ∀ x ∈ p1, x.block < W.heap.size := by obtain ⟨m, hm⟩ := k1; exact DataW.trod_lt m _ _ _ hm
  obtain ⟨s1, rfl, b1⟩ := open_limbs (hval 1 23 v1 rfl rfl) h1
  clear hA0 hval0 hsz
  refine (walk_FieldPowers W hL s0 b0 s1 b1).mono fun e W' ⟨he, bel⟩ => ?_
  subst he
  exact ⟨_, rfl, _, _, _, [], _, [], hW', trodAll_mk1 (shut_bool Tryd.underlying4 _), (trodAll_cons_mk (Below.trod laidOut (by kernel_rfl) (of_decide_eq_true (by kernel_rfl)) k0 bel lt0) (trodAll_cons_mk (Below.trod laidOut (by kernel_rfl) (of_decide_eq_true (by kernel_rfl)) k1 bel lt1) trodAll_mk0)), rfl, bel.frame _, fun h => by cases h⟩

/-- a world for the witness: the settled one, the listed variables holding what their initialisers lay -/
def litCells (d : DataW Unit) : Array Value := match d with
  | .agg l => (l.filterMap fun x => match x with | .lit (.int k n) => some (Value.int k n) | _ => Option.none).toArray
  | _ => #[]
noncomputable def laidWorld (os : Os) : World :=
  { World.holding Tryd.prog os ⟨#[], #[], []⟩ with heap := (((((World.holding Tryd.prog os ⟨#[], #[], []⟩).heap.modify 0 fun
      | .cells _ t frozen => .cells (litCells Rows.laid_bosun_field_modulus) t frozen
      | o => o).modify 1 fun
      | .cells _ t frozen => .cells (litCells Rows.laid_bosun_field_lessTwo) t frozen
      | o => o).modify 2 fun
      | .cells _ t frozen => .cells (litCells Rows.laid_bosun_field_eighth) t frozen
      | o => o).modify 3 fun
      | .cells _ t frozen => .cells (litCells Rows.laid_bosun_field_rootOfMinusOne) t frozen
      | o => o) }
theorem laid_met (os : Os) : laidMet Tryd.prog Rows.fieldPowersRow.laid ((laidWorld os).forCall (fun _ _ => 0) ⟨#[], #[.agg #[.int .u64 0, .int .u64 0, .int .u64 0, .int .u64 0], .agg #[.int .u64 0, .int .u64 0, .int .u64 0, .int .u64 0]], []⟩).memory :=
  laidMet_of_run' 8 (by kernel_rfl) (by kernel_rfl)
theorem reads (os : Os) {H : Type} (enc : TypeId × Value → H) : ∃ places, DataW.whole enc Tryd.prog ((laidWorld os).forCall (fun _ _ => 0) ⟨#[], #[.agg #[.int .u64 0, .int .u64 0, .int .u64 0, .int .u64 0], .agg #[.int .u64 0, .int .u64 0, .int .u64 0, .int .u64 0]], []⟩).memory Tryd.f4.params.toList Rows.fieldPowersSpec.vars false (#[.agg #[.int .u64 0, .int .u64 0, .int .u64 0, .int .u64 0], .agg #[.int .u64 0, .int .u64 0, .int .u64 0, .int .u64 0]] : Array Value).toList 8 = some ([.agg (List.replicate 4 (.lit (.int .u64 0))), .agg (List.replicate 4 (.lit (.int .u64 0)))], [], places) :=
  ⟨[], by kernel_rfl⟩

set_option maxRecDepth 100000 in
theorem lifted (os : Os) (started : os.Started) (H : Type) (enc : TypeId × Value → H) (F : Stop.Interp) :
    ReturnsInHanded {} Tryd.checked os 4 .any ((OpenSpec.ofChange Rows.fieldPowersSpec).preRow enc Tryd.prog Tryd.f4 Rows.fieldPowersRow.domain false Rows.fieldPowersRow.laid) (((OpenSpec.ofChange Rows.fieldPowersSpec).at F).post enc Tryd.prog Tryd.f4 false true false false) := by
  obtain ⟨places, hx⟩ := reads os enc
  refine returnsInHanded_of_row (C := Tryd.checked) (s := OpenSpec.ofChange Rows.fieldPowersSpec) own started (by kernel_rfl) Tryd.func4
    (witness_row_at (enc := enc) (C := Tryd.checked) false (laidWorld os) #[.agg #[.int .u64 0, .int .u64 0, .int .u64 0, .int .u64 0], .agg #[.int .u64 0, .int .u64 0, .int .u64 0, .int .u64 0]] rfl (by kernel_rfl) (by kernel_rfl) (by kernel_rfl)
      (OpenSpec.preRow_of_cond 8 hx (by kernel_rfl) (fun k hk => by cases hk) (by kernel_rfl) (laid_met os))) ?_
  intro W base args ds gs before hval hW _ _ hsz hL _ _
  exact contract H enc W base args ds gs before hval hW hsz hL

theorem said : Rows.FieldPowersSaid :=
  OpenClaim.holds_of_cond 4 Tryd.f4 rfl rfl rfl rfl rfl rfl rfl ⟨rfl, rfl, rfl, rfl, rfl⟩ rfl rfl rfl rfl rfl (by kernel_rfl) Tryd.func4 (by kernel_rfl)
    (of_decide_eq_true (by kernel_rfl)) (by unfold Func.isWrapper; first | (rw [if_pos (by decide +kernel)]; kernel_rfl) | (rw [if_neg (by decide +kernel)]; exact ⟨rfl, rfl⟩))
    (fun os started H enc _ F => by rw [OpenClaim.pre_eq_preRow]; exact lifted os started H enc F)

theorem plain (f : FuncId) (fn : Func) (hf : Tryd.pinned.checked.prog.funcNamed "bosun/bosunlaw05.FieldPowers" = some f) (hfn : Tryd.pinned.checked.prog.funcs[f]? = some fn) :
    false = Tryd.pinned.checked.prog.looks [] ∧ ∀ (j : Nat) t, fn.params[j]? = some t → Tryd.pinned.checked.prog.wantsStandIn t = false := by
  obtain rfl : f = 4 := Option.some.inj ((show Tryd.prog.funcNamed "bosun/bosunlaw05.FieldPowers" = some 4 by kernel_rfl).symm.trans hf) |>.symm
  obtain rfl : fn = Tryd.f4 := (Option.some.inj (Tryd.func4.symm.trans hfn)).symm
  refine ⟨by kernel_rfl, fun j t ht => ?_⟩
  rw [Tryd.params4] at ht
  have hm : t ∈ [23, 23] := by simpa using Array.mem_of_getElem? ht
  have hall : ∀ t ∈ [23, 23], Tryd.prog.wantsStandIn t = false := by
    intro t ht
    simp only [List.mem_cons, List.not_mem_nil, or_false] at ht
    rcases ht with rfl | rfl <;> kernel_rfl
  exact hall t hm

theorem proved : Rows.FieldPowersCardSaid :=
  Claim7.holds_tied_plain_at .later [] _ _ _ _ said (fun _ h => by cases h) (by kernel_rfl) (fun _ h => by cases h) fieldPowers_row_tie rfl ⟨rfl, rfl⟩ (by kernel_rfl) rfl plain (by kernel_rfl)
end lawFieldPowers
end Go.Proofs.YtgkofpfjbjnhfaaDoor
