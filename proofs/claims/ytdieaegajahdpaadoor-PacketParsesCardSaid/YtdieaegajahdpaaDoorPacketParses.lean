/- The law PacketParses: the packet of any bytes, or what is wrong first. -/
import Derived.Test.YtdieaegajahdpaaDoorPk8
import Derived.Test.YtdieaegajahdpaaDoorCards
import Derived.Test.YtdieaegajahdpaaDoorTie
import Derived.Deep.DeepHandedRow
import Derived.Lib.LaidTab
namespace Go.Proofs.YtdieaegajahdpaaDoor
open Go.ChangeShapes Go.WideShapes Go.ChangeAt Go.RowKit
set_option linter.unusedVariables false
set_option linter.unusedSimpArgs false

set_option maxRecDepth 100000 in
set_option maxHeartbeats 8000000 in
theorem walk_PacketParses (w : World) (hL : laidMetH Tryd.prog Rows.packetParsesRow.laid w) (v : Value) (b : List UInt8) (hb : IsBytes w v b) :
    Calls Tryd.prog 8 #[v] w fun e w' => e = .returned (.bool true) ∧ Below w.heap.size w w' := by
  have hLens : Lens w := lens_of_laid hL
  clear hL
  have HL := hide hLens
  have hLv := lives12_any w hLens
  have Hb := hide hb
  obtain ⟨a, c, rfl, hc, hm, _, _⟩ := hb
  unfold maxLen at hm
  clear hLens
  by_cases h500 : 500 < b.length
  · go_enter Tryd.func8, Tryd.ntmps8
    go_wp2_with fail
    refine hLv.mono ?_
    clear hLv
    rintro e w2 ⟨rfl, hb2⟩
    have hLv := lives12_any w2 (HL.out.below hb2)
    have HB2 := hide hb2
    clear hb2
    go_wp2_with fail
    refine hLv.mono ?_
    clear hLv
    rintro e w3 ⟨rfl, hb3⟩
    have HB3 := hide (HB2.out.trans (hb3.mono HB2.out.size))
    clear hb3
    go_wp2_with fail
    go_ret
    exact ⟨rfl, HB3.out⟩
  · have hup := Tryd.underlying49
    have hur := Tryd.underlying56
    have Hgd : Hid (Tryd.prog.eqGuardType Tryd.prog.depth 56 = false) := hide (by kernel_rfl)
    have hz := pk_hz
    have hz2 := rp_hz
    have hok := pparse_ok (b := b)
    have HP := hide (fun X (hX : IsBytes X (.slice a b.length c) b) (hl : Lens X) => pkparse_any _ b X hX (by omega) hl)
    have HR := hide (fun X (hX : IsBytes X (.slice a b.length c) b) => rpparse_any _ b X hX (by omega))
    obtain ⟨R, hR⟩ : ∃ R, R = pparse b := ⟨_, rfl⟩
    rw [← hR] at hok HP HR
    obtain ⟨q, er⟩ := R
    simp only at hok
    have Hsz : Hid ((Tryd.prog.info? 49).map (·.size) = some (pkC q).size) := hide (by rw [pkC_size hok]; kernel_rfl)
    have Hzz : Hid ((pkC zP).size = (pkC q).size) := hide (by rw [pkC_size hok]; rfl)
    have Hone := hide (pkC_one q)
    have Hsz2 : Hid ((Tryd.prog.info? 56).map (·.size) = some (rpC q).size) := hide (by rw [rpC_size hok]; kernel_rfl)
    have Hzz2 : Hid ((rpC zP).size = (rpC q).size) := hide (by rw [rpC_size hok]; rfl)
    have Hone2 := hide (rpC_one q)
    have HQ : Hid (∀ X, (Op.equalIn 10000 56 (.agg (rpC q)) (.agg (rpC q))).run Tryd.prog X = .ok true X) := hide (fun X => eq_rp X q hok)
    have HO := hide (fun X => of12_any q hok X)
    have HP : Hid (∀ X, IsBytes X (.slice a b.length c) b → Lens X → Calls Tryd.prog 25 #[.slice a b.length c] X (fun e w' => e = .returned (.tuple #[.agg (pkC q), .int .i64 (er : Nat)]) ∧ Below X.heap.size X w')) := hide fun X h1 h2 => HP.out X h1 h2
    have HR : Hid (∀ X, IsBytes X (.slice a b.length c) b → Calls Tryd.prog 30 #[.slice a b.length c] X (fun e w' => e = .returned (.tuple #[.agg (rpC q), .int .i64 (er : Nat)]) ∧ Below X.heap.size X w')) := hide fun X h1 => HR.out X h1
    clear hR hok
    generalize hZ : pkC zP = Z at *
    generalize hZ2 : rpC zP = Z2 at *
    generalize pkC q = C at *
    generalize rpC q = RC at *
    clear hZ hZ2
    go_enter Tryd.func8, Tryd.ntmps8
    go_wp2_with fail
    refine hLv.mono ?_
    clear hLv
    rintro e w2 ⟨rfl, hb2⟩
    have HB2 := hide hb2
    have hP := HP.out w2 (Hb.out.below hb2) (HL.out.below hb2)
    clear hb2
    go_wp2_with fail
    refine hP.mono ?_
    clear hP
    rintro e w3 ⟨rfl, hb3⟩
    have HB3 := hide (HB2.out.trans (hb3.mono HB2.out.size))
    have hr3 := heap_alloc_new w3 (.cells Z 49)
    have H4 := hide (((on_all w3).alloc (.cells Z 49)).setRow C)
    have HS4 := hide (((Str.refl w3).alloc (.cells Z 49)).setRow w3.heap.size C)
    have HB4 := hide (HB3.out.trans ((all_below H4.out.right HS4.out).mono HB3.out.size))
    clear hb3
    have hR := HR.out ((w3.alloc (.cells Z 49)).setRow w3.heap.size C) (Hb.out.below HB4.out)
    generalize hW4 : (w3.alloc (.cells Z 49)).setRow w3.heap.size C = w4 at *
    have HW4 := hide hW4
    clear hW4
    go_wp2_with (refine wpList_store_row rfl _ _ _ rfl w3.heap.size C rfl rfl _ _ hr3 Hsz.out Hzz.out Hone.out ?_; rw [HW4.out])
    refine hR.mono ?_
    clear hR hr3
    rintro e w5 ⟨rfl, hb5⟩
    have h5 := H4.out.below hb5
    have HS5 := hide (HS4.out.trans (Str.below hb5))
    have HB5 := hide (HB4.out.trans (hb5.mono HB4.out.size))
    have hr5 := heap_alloc_new w5 (.cells Z2 56)
    have H6 := hide ((h5.alloc (.cells Z2 56)).setRow RC)
    have HS6 := hide ((HS5.out.alloc (.cells Z2 56)).setRow w5.heap.size RC)
    have HB6 := hide (below_setRow (HB5.out.alloc HB5.out.size (.cells Z2 56)) HB5.out.size RC)
    clear h5 hb5
    generalize hW6 : (w5.alloc (.cells Z2 56)).setRow w5.heap.size RC = w6 at *
    have HW6 := hide hW6
    clear hW6
    go_wp2_with (refine wpList_store_row rfl _ _ _ rfl w5.heap.size RC rfl rfl _ _ hr5 Hsz2.out Hzz2.out Hone2.out ?_; rw [HW6.out])
    have HGA : Hid (∀ X, Stay w6 X → X.heap[w3.heap.size]? = some (.cells C 49 (0, 0))) := hide fun X hX => on_blk_mul (H6.out.right.below hX)
    have HGB : Hid (∀ X, Stay w6 X → X.heap[w5.heap.size]? = some (.cells RC 56 (0, 0))) := hide fun X hX => on_blk_mul (H6.out.below hX)
    clear hr5 HS4 HS5 H4
    have hbb : (((er : Nat) : Int) == ((er : Nat) : Int)) = true := by simp
    go_wp2_with fail
    refine wp_region_vs [isV (.int .i64 ((er : Nat) : Int)), isV (.int .i64 ((er : Nat) : Int)), isV (.bool true), isV (.bool true), isV (.agg C), isV (.agg RC), isV (.agg RC), isV (.bool true), isV (.bool true), isV (.bool true)]
      (by kernel_rfl) (by kernel_rfl) rfl ?keep ?todo ?rest
    case keep => exact ⟨Keep.isV _, Keep.isV _, Keep.isV _, Keep.isV _, Keep.isV _, Keep.isV _, Keep.isV _, Keep.isV _, Keep.isV _, Keep.isV _, trivial⟩
    case todo =>
      refine ⟨?_, ?_, ?_, ?_, ?_, ?_, ?_, ?_, ?_, ?_, trivial⟩
      · intro ev X hT hb hk hf
        have e0 : ev (.tmp 4) = .int .i64 ((er : Nat) : Int) := hk.1
        exact OpOk.move rfl e0 ⟨rfl, Stay.refl _⟩
      · intro ev X hT hb hk hf
        have e0 : ev (.tmp 6) = .int .i64 ((er : Nat) : Int) := hk.1
        exact OpOk.move rfl e0 ⟨rfl, Stay.refl _⟩
      · intro ev X hT hb hk hf
        have e0 : ev (.tmp 25) = .int .i64 ((er : Nat) : Int) := hf.1
        have e1 : ev (.tmp 26) = .int .i64 ((er : Nat) : Int) := hf.2.1
        exact OpOk.run (v := .bool true) (W' := X) (by simp [execOp, e0, e1, hb.1, go_sem]) ⟨rfl, Stay.refl _⟩
      · intro ev X hT hb hk hf
        have e0 : ev (.tmp 27) = .bool true := hf.1
        exact OpOk.move rfl e0 ⟨rfl, Stay.refl _⟩
      · intro ev X hT hb hk hf
        refine ⟨true, hf.1, fun _ => ?_, fun h => (h rfl).elim⟩
        have e0 : ev (.tmp 3) = .pointer (some ⟨w3.heap.size, 0, Option.none⟩) := hk.1
        exact OpOk.load_part _ _ rfl w3.heap.size 0 e0 C _ (part_at (HGA.out X hT)) hup rfl Hsz.out ⟨rfl, Stay.refl _⟩
      · intro ev X hT hb hk hf
        refine ⟨true, hf.2.1, fun _ => ?_, fun h => (h rfl).elim⟩
        have e0 : ev (.tmp 29) = .agg C := hf.1
        refine OpOk.enters (f := 27) (args := #[.agg C]) (W' := X) (by simp [execOp, resolve, invoke, e0, hb.1, hb.2.1, go_sem]) ((HO.out X).mono ?_)
        rintro e X2 ⟨rfl, h6⟩
        exact ⟨_, rfl, rfl, h6⟩
      · intro ev X hT hb hk hf
        refine ⟨true, hf.1, fun _ => ?_, fun h => (h rfl).elim⟩
        have e0 : ev (.tmp 5) = .pointer (some ⟨w5.heap.size, 0, Option.none⟩) := hk.1
        exact OpOk.load_part _ _ rfl w5.heap.size 0 e0 RC _ (part_at (HGB.out X hT)) hur rfl Hsz2.out ⟨rfl, Stay.refl _⟩
      · intro ev X hT hb hk hf
        refine ⟨true, hf.2.2.1, fun _ => ?_, fun h => (h rfl).elim⟩
        have e0 : ev (.tmp 30) = .agg RC := hf.1
        have e1 : ev (.tmp 31) = .agg RC := hf.2.1
        exact OpOk.run (v := .bool true) (W' := X) (by
          unfold execOp
          simp only [e0, e1, Sem.run_bind, run_eqGuard_agg X _ _ _ _ _ _ Hgd.out, run_eql_struct, HQ.out X, Result.andThen_ok]
          rfl) ⟨rfl, Stay.refl _⟩
      · intro ev X hT hb hk hf
        have e0 : ev (.tmp 28) = .bool true := hf.1
        have e1 : ev (.tmp 32) = .bool true := hf.2.1
        exact OpOk.run (v := .bool true) (W' := X) (by simp [execOp, e0, e1, hb, hb.1, hb.2.1, hb.2.2, go_sem]) ⟨rfl, Stay.refl _⟩
      · intro ev X hT hb hk hf
        have e0 : ev (.tmp 33) = .bool true := hf.1
        exact OpOk.assign rfl e0 ⟨rfl, Stay.refl _⟩
    case rest =>
      intro X hT
      rintro _ - _ - _ - _ - _ - _ - _ - _ - _ - _ rfl
      have HBB := hide (HB6.out.trans (hT.mono HB6.out.size))
      clear hT
      go_wp2
      refine Rest.done ?_
      go_wp2_with fail
      go_ret
      exact ⟨rfl, HBB.out⟩
namespace lawPacketParses
theorem own : ownKnob Tryd.prog.godebug = Option.none := by kernel_rfl
theorem laidOut : laidOutB Tryd.prog = true := by kernel_rfl

set_option maxRecDepth 100000 in
theorem contract (H : Type) (enc : TypeId × Value → H) (W : World) (base : Nat) (args : Array Value) (ds gs : List (DataW H)) (before : List MemPlace)
    (hval0 : ∀ (j : Nat) t v, Tryd.f8.params[j]? = some t → args[j]? = some v → Value.okWide Tryd.prog W .any base t v)
    (hW : DataW.Whole enc Tryd.prog Tryd.f8.params.toList Rows.packetParsesSpec.vars false W args.toList ds gs before) (hsz : (DataW.weightsEach Tryd.prog (Tryd.f8.params.toList ++ (OpenSpec.ofChange Rows.packetParsesSpec).bare.plain.varTypes Tryd.prog) (ds ++ gs)).all (· ≤ reachBytes) = true) (hL : laidMetH Tryd.prog Rows.packetParsesRow.laid W) :
    Calls Tryd.prog 8 args W fun e W' => ∃ v, e = .returned v ∧ Rows.packetParsesSpec.post enc Tryd.prog Tryd.f8 false true false false W args v W' := by
  have hval : ∀ (j : Nat) t v, Tryd.f8.params[j]? = some t → args[j]? = some v → Value.okWide Tryd.prog W .any base t v := hval0
  have hW' := hW
  obtain ⟨p, q, hA0, hV, rfl, hfz, hnd⟩ := hW
  have hA : DataW.TrodAll enc Tryd.prog W 0 (fun _ => true) true Tryd.f8.params.toList args.toList ds p := hA0
  rw [Tryd.params8] at hA hval
  obtain ⟨v0, vs0, d0, ds0, p0, q0, hargs, rfl, rfl, h0, r0⟩ := trodAll_cons hA
  obtain ⟨rfl, rfl, rfl⟩ := trodAll_nil r0
  obtain rfl : args = #[v0] := by cases args; simp_all
  obtain ⟨rfl, rfl⟩ := trodVars_none hV
  have k0 := h0
  have lt0 : ∀ x ∈ p0, x.block < W.heap.size := by obtain ⟨m, hm⟩ := k0; exact DataW.trod_lt m _ _ _ hm
  obtain ⟨l0, b0, n0⟩ := open_bytes Tryd.underlying22 Tryd.underlying5 (by kernel_rfl) (hval 0 22 v0 rfl rfl) h0
  clear hA0 hval0 hsz
  refine (walk_PacketParses W hL v0 l0 b0).mono fun e W' ⟨he, bel⟩ => ?_
  subst he
  exact ⟨_, rfl, _, _, _, [], _, [], hW', trodAll_mk1 (shut_bool Tryd.underlying4 _), (trodAll_cons_mk (Below.trod laidOut (by kernel_rfl) (of_decide_eq_true (by kernel_rfl)) k0 bel lt0) trodAll_mk0), rfl, bel.frame _, fun h => by cases h⟩

/-- a world for the witness: the settled one, the listed variables holding what their initialisers lay -/
def litCells (d : DataW Unit) : Array Value := match d with
  | .agg l => (l.filterMap fun x => match x with | .lit (.int k n) => some (Value.int k n) | _ => Option.none).toArray
  | _ => #[]
noncomputable def laidWorld (os : Os) : World :=
  { World.holding Tryd.prog os ⟨#[], #[], []⟩ with heap := ((World.holding Tryd.prog os ⟨#[], #[], []⟩).heap.modify 4 fun
      | .cells _ t frozen => .cells (litCells Rows.laid_bosun_packet_lengths) t frozen
      | o => o) }
theorem laid_met (os : Os) : laidMet Tryd.prog Rows.packetParsesRow.laid ((laidWorld os).forCall (fun _ _ => 0) ⟨#[], #[.slice Option.none 0 0], []⟩).memory :=
  laidMet_of_run' 8 (by kernel_rfl) (by kernel_rfl)
theorem reads (os : Os) {H : Type} (enc : TypeId × Value → H) : ∃ places, DataW.whole enc Tryd.prog ((laidWorld os).forCall (fun _ _ => 0) ⟨#[], #[.slice Option.none 0 0], []⟩).memory Tryd.f8.params.toList Rows.packetParsesSpec.vars false (#[.slice Option.none 0 0] : Array Value).toList 8 = some ([.nil], [], places) :=
  ⟨[], by kernel_rfl⟩

set_option maxRecDepth 100000 in
theorem lifted (os : Os) (started : os.Started) (H : Type) (enc : TypeId × Value → H) (F : Stop.Interp) :
    ReturnsInHanded {} Tryd.checked os 8 .any ((OpenSpec.ofChange Rows.packetParsesSpec).preRow enc Tryd.prog Tryd.f8 Rows.packetParsesRow.domain false Rows.packetParsesRow.laid) (((OpenSpec.ofChange Rows.packetParsesSpec).at F).post enc Tryd.prog Tryd.f8 false true false false) := by
  obtain ⟨places, hx⟩ := reads os enc
  refine returnsInHanded_of_row (C := Tryd.checked) (s := OpenSpec.ofChange Rows.packetParsesSpec) own started (by kernel_rfl) Tryd.func8
    (witness_row_at (enc := enc) (C := Tryd.checked) false (laidWorld os) #[.slice Option.none 0 0] rfl (by kernel_rfl) (by kernel_rfl) (by kernel_rfl)
      (OpenSpec.preRow_of_cond 8 hx (by kernel_rfl) (fun k hk => by cases hk) (by kernel_rfl) (laid_met os))) ?_
  intro W base args ds gs before hval hW _ _ hsz hL _ _
  exact contract H enc W base args ds gs before hval hW hsz hL

theorem said : Rows.PacketParsesSaid :=
  OpenClaim.holds_of_cond 8 Tryd.f8 rfl rfl rfl rfl rfl rfl rfl ⟨rfl, rfl, rfl, rfl, rfl⟩ rfl rfl rfl rfl rfl (by kernel_rfl) Tryd.func8 (by kernel_rfl)
    (of_decide_eq_true (by kernel_rfl)) (by unfold Func.isWrapper; first | (rw [if_pos (by decide +kernel)]; kernel_rfl) | (rw [if_neg (by decide +kernel)]; exact ⟨rfl, rfl⟩))
    (fun os started H enc _ F => by rw [OpenClaim.pre_eq_preRow]; exact lifted os started H enc F)

theorem plain (f : FuncId) (fn : Func) (hf : Tryd.pinned.checked.prog.funcNamed "bosun/bosunlaw12.PacketParses" = some f) (hfn : Tryd.pinned.checked.prog.funcs[f]? = some fn) :
    false = Tryd.pinned.checked.prog.looks [] ∧ ∀ (j : Nat) t, fn.params[j]? = some t → Tryd.pinned.checked.prog.wantsStandIn t = false := by
  obtain rfl : f = 8 := Option.some.inj ((show Tryd.prog.funcNamed "bosun/bosunlaw12.PacketParses" = some 8 by kernel_rfl).symm.trans hf) |>.symm
  obtain rfl : fn = Tryd.f8 := (Option.some.inj (Tryd.func8.symm.trans hfn)).symm
  refine ⟨by kernel_rfl, fun j t ht => ?_⟩
  rw [Tryd.params8] at ht
  have hm : t ∈ [22] := by simpa using Array.mem_of_getElem? ht
  have hall : ∀ t ∈ [22], Tryd.prog.wantsStandIn t = false := by
    intro t ht
    simp only [List.mem_cons, List.not_mem_nil, or_false] at ht
    rcases ht with rfl <;> kernel_rfl
  exact hall t hm

theorem proved : Rows.PacketParsesCardSaid :=
  Claim7.holds_tied_plain_at .later [] _ _ _ _ said (fun _ h => by cases h) (by kernel_rfl) (fun _ h => by cases h) packetParses_row_tie rfl ⟨rfl, rfl⟩ (by kernel_rfl) rfl plain (by kernel_rfl)
end lawPacketParses
end Go.Proofs.YtdieaegajahdpaaDoor
