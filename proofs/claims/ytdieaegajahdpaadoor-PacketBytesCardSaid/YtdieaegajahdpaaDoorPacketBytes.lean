/- The law PacketBytes: any packet's bytes, and the signed ones; they are parsed to it. -/
import Derived.Test.YtdieaegajahdpaaDoorPk8
import Derived.Test.YtdieaegajahdpaaDoorCards
import Derived.Test.YtdieaegajahdpaaDoorTie
import Derived.Deep.DeepHandedRow
import Derived.Lib.LaidTab
namespace Go.Proofs.YtdieaegajahdpaaDoor
open Go.ChangeShapes Go.WideShapes Go.ChangeAt Go.RowKit
set_option linter.unusedVariables false
set_option linter.unusedSimpArgs false

set_option maxRecDepth 100000 in
set_option maxHeartbeats 8000000 in
theorem walk_PacketBytes (w : World) (hL : laidMetH Tryd.prog Rows.packetBytesRow.laid w) (p : PkS) (hpk : p.Ok) :
    Calls Tryd.prog 7 #[.agg (pkC p)] w fun e w' => e = .returned (.bool true) ∧ Below w.heap.size w w' := by
  have hLens : Lens w := lens_of_laid hL
  clear hL
  have hup := Tryd.underlying49
  have hu := Tryd.underlying22
  have hu8 := Tryd.underlying5
  have hstr := Tryd.underlying9
  have Hgd : Hid (Tryd.prog.eqGuardType Tryd.prog.depth 49 = false) := hide (by kernel_rfl)
  have hz := pk_hz
  have Hsz : Hid ((Tryd.prog.info? 49).map (·.size) = some (pkC p).size) := hide (by rw [pkC_size hpk]; kernel_rfl)
  have Hzz : Hid ((pkC zP).size = (pkC p).size) := hide (by rw [pkC_size hpk]; rfl)
  have Hone := hide (pkC_one p)
  have HE := hide (fun X => pencode_any p hpk X)
  have HS := hide (fun X => psigned_any p hpk X)
  have HP : Hid (∀ v X, IsBytes X v (pkB p) → Lens X → Calls Tryd.prog 25 #[v] X (fun e w' => e = .returned (.tuple #[.agg (pkC p), .int .i64 (0 : Nat)]) ∧ Below X.heap.size X w')) := hide fun v X h1 h2 => by
    have := pkparse_any v (pkB p) X h1 (by rw [pkB_len hpk]; decide) h2
    rw [pparse_pkB hpk] at this
    exact this
  have HQ : Hid (∀ X, (Op.equalIn 10000 49 (.agg (pkC p)) (.agg (pkC p))).run Tryd.prog X = .ok true X) := hide (fun X => eq_pk X p hpk)
  have HO := hide (fun X => of12_any p hpk X)
  have HRE := hide (fun X => rpencode_any p hpk X)
  have HRS := hide (fun X => rsigned_any p hpk X)
  have H1 := hide ((on_all w).alloc (.cells (pkC p) 49))
  have HS1 := hide ((Str.refl w).alloc (.cells (pkC p) 49))
  have hLv := lives12_any (w.alloc (.cells (pkC p) 49)) (hLens.below (all_below H1.out.right HS1.out))
  have HL := hide hLens
  clear hLens
  generalize hZ : pkC zP = Z at *
  generalize pkC p = C at *
  clear hZ
  generalize rpC p = RC at *
  generalize pkB p = g at *
  generalize signedB p = g2 at *
  go_enter Tryd.func7, Tryd.ntmps7
  go_wp2_with fail
  refine hLv.mono ?_
  clear hLv
  rintro e w2 ⟨rfl, hb2⟩
  have H2 := hide (H1.out.below hb2)
  have HS2 := hide (HS1.out.trans (Str.below hb2))
  have hg2 := on_blk_mul H2.out
  have hE := HE.out w2
  clear hb2
  go_wp2_with (refine wpList_load_row rfl _ _ rfl w.heap.size rfl _ C _ _ hg2 hup rfl Hsz.out ?_)
  refine hE.mono ?_
  clear hE hg2
  rintro e w3 ⟨v, rfl, ho, hs⟩
  have H3 := hide (on_all_to ho H2.out)
  have HS3 := hide (HS2.out.trans hs)
  have hP := HP.out v w3 (own_bytes ho) (HL.out.below (all_below H3.out.right.right HS3.out))
  obtain ⟨a3, c3, rfl, _, _, _, _⟩ := own_value ho
  clear ho hs
  go_wp2_with fail
  refine hP.mono ?_
  clear hP
  rintro e w4 ⟨rfl, hb⟩
  have h4 := H3.out.below hb
  have HS4 := hide (HS3.out.trans (Str.below hb))
  have hr4 := heap_alloc_new w4 (.cells Z 49)
  have H5 := hide ((h4.alloc (.cells Z 49)).setRow C)
  have HS5 := hide ((HS4.out.alloc (.cells Z 49)).setRow w4.heap.size C)
  clear h4 hb
  generalize hW5 : (w4.alloc (.cells Z 49)).setRow w4.heap.size C = w5 at *
  have HW5 := hide hW5
  clear hW5
  go_wp2_with (refine wpList_store_row rfl _ _ _ rfl w4.heap.size C rfl rfl _ _ hr4 Hsz.out Hzz.out Hone.out ?_; rw [HW5.out])
  have HGA : Hid (∀ X, Stay w5 X → X.heap[w.heap.size]? = some (.cells C 49 (0, 0))) := hide fun X hX => on_blk_mul (H5.out.right.right.below hX)
  have HGB : Hid (∀ X, Stay w5 X → X.heap[w4.heap.size]? = some (.cells C 49 (0, 0))) := hide fun X hX => on_blk_mul (H5.out.below hX)
  have HBy : Hid (∀ X, Stay w5 X → Lay X a3 (vbs g)) := hide fun X hX => by
    obtain ⟨_, _, e, _, _, hl, _⟩ := own_value (H5.out.right.below hX)
    simp only [Value.slice.injEq] at e
    obtain ⟨rfl, _, rfl⟩ := e
    exact hl
  have HB5 := hide (all_below H5.out.right.right.right HS5.out)
  clear hr4 H3 HS3 HS4 H2 HS2 H1 HS1
  go_wp2_with fail
  refine wp_region_vs [isV (.slice a3 g.length c3), isV (.string (strOf g)), isV (.agg C), isV (.agg RC), fun v X => IsBytes X v g, isV (.string (strOf g)), isV (.bool true), isV (.bool true), isV (.agg C), fun v X => IsBytes X v g2, isV (.string (strOf g2)), isV (.agg C), isV (.agg RC), fun v X => IsBytes X v g2, isV (.string (strOf g2)), isV (.bool true), isV (.bool true), isV (.bool true), isV (.int .i64 0), isV (.bool true), isV (.bool true), isV (.bool true), isV (.agg C), isV (.agg C), isV (.bool true), isV (.bool true), isV (.bool true)]
    (by kernel_rfl) (by kernel_rfl) rfl ?keep ?todo ?rest
  case keep => exact ⟨Keep.isV _, Keep.isV _, Keep.isV _, Keep.isV _, fun _ _ _ h k => IsBytes.below h k, Keep.isV _, Keep.isV _, Keep.isV _, Keep.isV _, fun _ _ _ h k => IsBytes.below h k, Keep.isV _, Keep.isV _, Keep.isV _, fun _ _ _ h k => IsBytes.below h k, Keep.isV _, Keep.isV _, Keep.isV _, Keep.isV _, Keep.isV _, Keep.isV _, Keep.isV _, Keep.isV _, Keep.isV _, Keep.isV _, Keep.isV _, Keep.isV _, Keep.isV _, trivial⟩
  case todo =>
    refine ⟨?_, ?_, ?_, ?_, ?_, ?_, ?_, ?_, ?_, ?_, ?_, ?_, ?_, ?_, ?_, ?_, ?_, ?_, ?_, ?_, ?_, ?_, ?_, ?_, ?_, ?_, ?_, trivial⟩
    · intro ev X hT hb hk hf
      have e0 : ev (.tmp 3) = .slice a3 g.length c3 := hk.1
      exact OpOk.move rfl e0 ⟨rfl, Stay.refl _⟩
    · intro ev X hT hb hk hf
      have e0 : ev (.tmp 15) = .slice a3 g.length c3 := hf.1
      exact OpOk.convert rfl e0 (run_string_of hu hu8 (HBy.out X hT) _ hstr) ⟨rfl, Stay.refl _⟩
    · intro ev X hT hb hk hf
      have e0 : ev (.tmp 1) = .pointer (some ⟨w.heap.size, 0, Option.none⟩) := hk.1
      exact OpOk.load_part _ _ rfl w.heap.size 0 e0 C _ (part_at (HGA.out X hT)) hup rfl Hsz.out ⟨rfl, Stay.refl _⟩
    · intro ev X hT hb hk hf
      have e0 : ev (.tmp 17) = .agg C := hf.1
      refine OpOk.enters (f := 27) (args := #[.agg C]) (W' := X) (by simp [execOp, resolve, invoke, e0, hb.1, hb.2.1, go_sem]) ((HO.out X).mono ?_)
      rintro e X2 ⟨rfl, h6⟩
      exact ⟨_, rfl, rfl, h6⟩
    · intro ev X hT hb hk hf
      have e0 : ev (.tmp 18) = .agg RC := hf.1
      refine OpOk.enters (f := 26) (args := #[.agg RC]) (W' := X) (by simp [execOp, resolve, invoke, e0, hb.1, hb.2.1, go_sem]) ((HRE.out X).mono ?_)
      rintro e X2 ⟨v5, rfl, h5, h6⟩
      exact ⟨_, rfl, own_bytes h5, all_below h5.right h6⟩
    · intro ev X hT hb hk hf
      have e0 : IsBytes X (ev (.tmp 19)) g := hf.1
      obtain ⟨ka, kc, k, _, _, hl, _⟩ := e0
      exact OpOk.convert rfl k (run_string_of hu hu8 hl _ hstr) ⟨rfl, Stay.refl _⟩
    · intro ev X hT hb hk hf
      have e0 : ev (.tmp 16) = .string (strOf g) := hf.1
      have e1 : ev (.tmp 20) = .string (strOf g) := hf.2.1
      exact OpOk.run (v := .bool true) (W' := X) (by simp [execOp, e0, e1, hb.1, go_sem]) ⟨rfl, Stay.refl _⟩
    · intro ev X hT hb hk hf
      have e0 : ev (.tmp 21) = .bool true := hf.1
      exact OpOk.move rfl e0 ⟨rfl, Stay.refl _⟩
    · intro ev X hT hb hk hf
      refine ⟨true, hf.1, fun _ => ?_, fun h => (h rfl).elim⟩
      have e0 : ev (.tmp 1) = .pointer (some ⟨w.heap.size, 0, Option.none⟩) := hk.1
      exact OpOk.load_part _ _ rfl w.heap.size 0 e0 C _ (part_at (HGA.out X hT)) hup rfl Hsz.out ⟨rfl, Stay.refl _⟩
    · intro ev X hT hb hk hf
      refine ⟨true, hf.2.1, fun _ => ?_, fun h => (h rfl).elim⟩
      have e0 : ev (.tmp 23) = .agg C := hf.1
      refine OpOk.enters (f := 28) (args := #[.agg C]) (W' := X) (by simp [execOp, resolve, invoke, e0, hb.1, hb.2.1, go_sem]) ((HS.out X).mono ?_)
      rintro e X2 ⟨v5, rfl, h5, h6⟩
      exact ⟨_, rfl, own_bytes h5, all_below h5.right h6⟩
    · intro ev X hT hb hk hf
      refine ⟨true, hf.2.1, fun _ => ?_, fun h => (h rfl).elim⟩
      have e0 : IsBytes X (ev (.tmp 24)) g2 := hf.1
      obtain ⟨ka, kc, k, _, _, hl, _⟩ := e0
      exact OpOk.convert rfl k (run_string_of hu hu8 hl _ hstr) ⟨rfl, Stay.refl _⟩
    · intro ev X hT hb hk hf
      refine ⟨true, hf.1, fun _ => ?_, fun h => (h rfl).elim⟩
      have e0 : ev (.tmp 1) = .pointer (some ⟨w.heap.size, 0, Option.none⟩) := hk.1
      exact OpOk.load_part _ _ rfl w.heap.size 0 e0 C _ (part_at (HGA.out X hT)) hup rfl Hsz.out ⟨rfl, Stay.refl _⟩
    · intro ev X hT hb hk hf
      refine ⟨true, hf.2.2.1, fun _ => ?_, fun h => (h rfl).elim⟩
      have e0 : ev (.tmp 26) = .agg C := hf.1
      refine OpOk.enters (f := 27) (args := #[.agg C]) (W' := X) (by simp [execOp, resolve, invoke, e0, hb.1, hb.2.1, go_sem]) ((HO.out X).mono ?_)
      rintro e X2 ⟨rfl, h6⟩
      exact ⟨_, rfl, rfl, h6⟩
    · intro ev X hT hb hk hf
      refine ⟨true, hf.2.2.1, fun _ => ?_, fun h => (h rfl).elim⟩
      have e0 : ev (.tmp 27) = .agg RC := hf.1
      refine OpOk.enters (f := 29) (args := #[.agg RC]) (W' := X) (by simp [execOp, resolve, invoke, e0, hb.1, hb.2.1, go_sem]) ((HRS.out X).mono ?_)
      rintro e X2 ⟨v5, rfl, h5, h6⟩
      exact ⟨_, rfl, own_bytes h5, all_below h5.right h6⟩
    · intro ev X hT hb hk hf
      refine ⟨true, hf.2.1, fun _ => ?_, fun h => (h rfl).elim⟩
      have e0 : IsBytes X (ev (.tmp 28)) g2 := hf.1
      obtain ⟨ka, kc, k, _, _, hl, _⟩ := e0
      exact OpOk.convert rfl k (run_string_of hu hu8 hl _ hstr) ⟨rfl, Stay.refl _⟩
    · intro ev X hT hb hk hf
      refine ⟨true, hf.2.2.1, fun _ => ?_, fun h => (h rfl).elim⟩
      have e0 : ev (.tmp 25) = .string (strOf g2) := hf.1
      have e1 : ev (.tmp 29) = .string (strOf g2) := hf.2.1
      exact OpOk.run (v := .bool true) (W' := X) (by simp [execOp, e0, e1, hb.1, go_sem]) ⟨rfl, Stay.refl _⟩
    · intro ev X hT hb hk hf
      have e0 : ev (.tmp 22) = .bool true := hf.1
      have e1 : ev (.tmp 30) = .bool true := hf.2.1
      exact OpOk.run (v := .bool true) (W' := X) (by simp [execOp, e0, e1, hb, hb.1, hb.2.1, hb.2.2, go_sem]) ⟨rfl, Stay.refl _⟩
    · intro ev X hT hb hk hf
      have e0 : ev (.tmp 31) = .bool true := hf.1
      exact OpOk.move rfl e0 ⟨rfl, Stay.refl _⟩
    · intro ev X hT hb hk hf
      refine ⟨true, hf.1, fun _ => ?_, fun h => (h rfl).elim⟩
      have e0 : ev (.tmp 5) = .int .i64 0 := hk.1
      exact OpOk.move rfl e0 ⟨rfl, Stay.refl _⟩
    · intro ev X hT hb hk hf
      refine ⟨true, hf.2.1, fun _ => ?_, fun h => (h rfl).elim⟩
      have e0 : ev (.tmp 33) = .int .i64 0 := hf.1
      exact OpOk.run (v := .bool true) (W' := X) (by simp [execOp, e0, hb.1, go_sem]) ⟨rfl, Stay.refl _⟩
    · intro ev X hT hb hk hf
      have e0 : ev (.tmp 32) = .bool true := hf.1
      have e1 : ev (.tmp 34) = .bool true := hf.2.1
      exact OpOk.run (v := .bool true) (W' := X) (by simp [execOp, e0, e1, hb, hb.1, hb.2.1, hb.2.2, go_sem]) ⟨rfl, Stay.refl _⟩
    · intro ev X hT hb hk hf
      have e0 : ev (.tmp 35) = .bool true := hf.1
      exact OpOk.move rfl e0 ⟨rfl, Stay.refl _⟩
    · intro ev X hT hb hk hf
      refine ⟨true, hf.1, fun _ => ?_, fun h => (h rfl).elim⟩
      have e0 : ev (.tmp 4) = .pointer (some ⟨w4.heap.size, 0, Option.none⟩) := hk.1
      exact OpOk.load_part _ _ rfl w4.heap.size 0 e0 C _ (part_at (HGB.out X hT)) hup rfl Hsz.out ⟨rfl, Stay.refl _⟩
    · intro ev X hT hb hk hf
      refine ⟨true, hf.1, fun _ => ?_, fun h => (h rfl).elim⟩
      have e0 : ev (.tmp 1) = .pointer (some ⟨w.heap.size, 0, Option.none⟩) := hk.1
      exact OpOk.load_part _ _ rfl w.heap.size 0 e0 C _ (part_at (HGA.out X hT)) hup rfl Hsz.out ⟨rfl, Stay.refl _⟩
    · intro ev X hT hb hk hf
      refine ⟨true, hf.2.2.1, fun _ => ?_, fun h => (h rfl).elim⟩
      have e0 : ev (.tmp 37) = .agg C := hf.1
      have e1 : ev (.tmp 38) = .agg C := hf.2.1
      exact OpOk.run (v := .bool true) (W' := X) (by
        unfold execOp
        simp only [e0, e1, Sem.run_bind, run_eqGuard_agg X _ _ _ _ _ _ Hgd.out, run_eql_struct, HQ.out X, Result.andThen_ok]
        rfl) ⟨rfl, Stay.refl _⟩
    · intro ev X hT hb hk hf
      have e0 : ev (.tmp 36) = .bool true := hf.1
      have e1 : ev (.tmp 39) = .bool true := hf.2.1
      exact OpOk.run (v := .bool true) (W' := X) (by simp [execOp, e0, e1, hb, hb.1, hb.2.1, hb.2.2, go_sem]) ⟨rfl, Stay.refl _⟩
    · intro ev X hT hb hk hf
      have e0 : ev (.tmp 40) = .bool true := hf.1
      exact OpOk.assign rfl e0 ⟨rfl, Stay.refl _⟩
  case rest =>
    intro X hT
    rintro _ - _ - _ - _ - _ - _ - _ - _ - _ - _ - _ - _ - _ - _ - _ - _ - _ - _ - _ - _ - _ - _ - _ - _ - _ - _ - _ rfl
    have HBB := hide (HB5.out.trans (hT.mono HB5.out.size))
    clear hT
    go_wp2
    refine Rest.done ?_
    go_wp2_with fail
    go_ret
    exact ⟨rfl, HBB.out⟩
namespace lawPacketBytes
theorem own : ownKnob Tryd.prog.godebug = Option.none := by kernel_rfl
theorem laidOut : laidOutB Tryd.prog = true := by kernel_rfl

set_option maxRecDepth 100000 in
theorem contract (H : Type) (enc : TypeId × Value → H) (W : World) (base : Nat) (args : Array Value) (ds gs : List (DataW H)) (before : List MemPlace)
    (hval0 : ∀ (j : Nat) t v, Tryd.f7.params[j]? = some t → args[j]? = some v → Value.okWide Tryd.prog W .any base t v)
    (hW : DataW.Whole enc Tryd.prog Tryd.f7.params.toList Rows.packetBytesSpec.vars false W args.toList ds gs before) (hsz : (DataW.weightsEach Tryd.prog (Tryd.f7.params.toList ++ (OpenSpec.ofChange Rows.packetBytesSpec).bare.plain.varTypes Tryd.prog) (ds ++ gs)).all (· ≤ reachBytes) = true) (hL : laidMetH Tryd.prog Rows.packetBytesRow.laid W) :
    Calls Tryd.prog 7 args W fun e W' => ∃ v, e = .returned v ∧ Rows.packetBytesSpec.post enc Tryd.prog Tryd.f7 false true false false W args v W' := by
  have hval : ∀ (j : Nat) t v, Tryd.f7.params[j]? = some t → args[j]? = some v → Value.okWide Tryd.prog W .any base t v := hval0
  have hW' := hW
  obtain ⟨p, q, hA0, hV, rfl, hfz, hnd⟩ := hW
  have hA : DataW.TrodAll enc Tryd.prog W 0 (fun _ => true) true Tryd.f7.params.toList args.toList ds p := hA0
  rw [Tryd.params7] at hA hval
  obtain ⟨v0, vs0, d0, ds0, p0, q0, hargs, rfl, rfl, h0, r0⟩ := trodAll_cons hA
  obtain ⟨rfl, rfl, rfl⟩ := trodAll_nil r0
  obtain rfl : args = #[v0] := by cases args; simp_all
  obtain ⟨rfl, rfl⟩ := trodVars_none hV
  have k0 := h0
  have lt0 : ∀ x ∈ p0, x.block < W.heap.size := by obtain ⟨m, hm⟩ := k0; exact DataW.trod_lt m _ _ _ hm
  obtain ⟨s0, rfl, nn0⟩ := open_pk (hval 0 49 v0 rfl rfl) h0
  clear hA0 hval0 hsz
  refine (walk_PacketBytes W hL s0 nn0).mono fun e W' ⟨he, bel⟩ => ?_
  subst he
  exact ⟨_, rfl, _, _, _, [], _, [], hW', trodAll_mk1 (shut_bool Tryd.underlying4 _), (trodAll_cons_mk (Below.trod laidOut (by kernel_rfl) (of_decide_eq_true (by kernel_rfl)) k0 bel lt0) trodAll_mk0), rfl, bel.frame _, fun h => by cases h⟩

/-- a world for the witness: the settled one, the listed variables holding what their initialisers lay -/
def litCells (d : DataW Unit) : Array Value := match d with
  | .agg l => (l.filterMap fun x => match x with | .lit (.int k n) => some (Value.int k n) | _ => Option.none).toArray
  | _ => #[]
noncomputable def laidWorld (os : Os) : World :=
  { World.holding Tryd.prog os ⟨#[], #[], []⟩ with heap := ((World.holding Tryd.prog os ⟨#[], #[], []⟩).heap.modify 4 fun
      | .cells _ t frozen => .cells (litCells Rows.laid_bosun_packet_lengths) t frozen
      | o => o) }
theorem laid_met (os : Os) : laidMet Tryd.prog Rows.packetBytesRow.laid ((laidWorld os).forCall (fun _ _ => 0) ⟨#[], #[.agg (pkC zP)], []⟩).memory :=
  laidMet_of_run' 8 (by kernel_rfl) (by kernel_rfl)
theorem reads (os : Os) {H : Type} (enc : TypeId × Value → H) : ∃ places, DataW.whole enc Tryd.prog ((laidWorld os).forCall (fun _ _ => 0) ⟨#[], #[.agg (pkC zP)], []⟩).memory Tryd.f7.params.toList Rows.packetBytesSpec.vars false (#[.agg (pkC zP)] : Array Value).toList 8 = some ([.agg [.lit (.int .u32 0), .lit (.int .u8 0), .lit (.int .u32 0), .lit (.int .u32 0), .agg (List.replicate 32 (.lit (.int .u8 0))), .agg (List.replicate 64 (.lit (.int .u8 0)))]], [], places) :=
  ⟨[], by kernel_rfl⟩

set_option maxRecDepth 100000 in
theorem lifted (os : Os) (started : os.Started) (H : Type) (enc : TypeId × Value → H) (F : Stop.Interp) :
    ReturnsInHanded {} Tryd.checked os 7 .any ((OpenSpec.ofChange Rows.packetBytesSpec).preRow enc Tryd.prog Tryd.f7 Rows.packetBytesRow.domain false Rows.packetBytesRow.laid) (((OpenSpec.ofChange Rows.packetBytesSpec).at F).post enc Tryd.prog Tryd.f7 false true false false) := by
  obtain ⟨places, hx⟩ := reads os enc
  refine returnsInHanded_of_row (C := Tryd.checked) (s := OpenSpec.ofChange Rows.packetBytesSpec) own started (by kernel_rfl) Tryd.func7
    (witness_row_at (enc := enc) (C := Tryd.checked) false (laidWorld os) #[.agg (pkC zP)] rfl (by kernel_rfl) (by kernel_rfl) (by kernel_rfl)
      (OpenSpec.preRow_of_cond 8 hx (by kernel_rfl) (fun k hk => by cases hk) (by kernel_rfl) (laid_met os))) ?_
  intro W base args ds gs before hval hW _ _ hsz hL _ _
  exact contract H enc W base args ds gs before hval hW hsz hL

theorem said : Rows.PacketBytesSaid :=
  OpenClaim.holds_of_cond 7 Tryd.f7 rfl rfl rfl rfl rfl rfl rfl ⟨rfl, rfl, rfl, rfl, rfl⟩ rfl rfl rfl rfl rfl (by kernel_rfl) Tryd.func7 (by kernel_rfl)
    (of_decide_eq_true (by kernel_rfl)) (by unfold Func.isWrapper; first | (rw [if_pos (by decide +kernel)]; kernel_rfl) | (rw [if_neg (by decide +kernel)]; exact ⟨rfl, rfl⟩))
    (fun os started H enc _ F => by rw [OpenClaim.pre_eq_preRow]; exact lifted os started H enc F)

theorem plain (f : FuncId) (fn : Func) (hf : Tryd.pinned.checked.prog.funcNamed "bosun/bosunlaw12.PacketBytes" = some f) (hfn : Tryd.pinned.checked.prog.funcs[f]? = some fn) :
    false = Tryd.pinned.checked.prog.looks [] ∧ ∀ (j : Nat) t, fn.params[j]? = some t → Tryd.pinned.checked.prog.wantsStandIn t = false := by
  obtain rfl : f = 7 := Option.some.inj ((show Tryd.prog.funcNamed "bosun/bosunlaw12.PacketBytes" = some 7 by kernel_rfl).symm.trans hf) |>.symm
  obtain rfl : fn = Tryd.f7 := (Option.some.inj (Tryd.func7.symm.trans hfn)).symm
  refine ⟨by kernel_rfl, fun j t ht => ?_⟩
  rw [Tryd.params7] at ht
  have hm : t ∈ [49] := by simpa using Array.mem_of_getElem? ht
  have hall : ∀ t ∈ [49], Tryd.prog.wantsStandIn t = false := by
    intro t ht
    simp only [List.mem_cons, List.not_mem_nil, or_false] at ht
    rcases ht with rfl <;> kernel_rfl
  exact hall t hm

theorem proved : Rows.PacketBytesCardSaid :=
  Claim7.holds_tied_plain_at .later [] _ _ _ _ said (fun _ h => by cases h) (by kernel_rfl) (fun _ h => by cases h) packetBytes_row_tie rfl ⟨rfl, rfl⟩ (by kernel_rfl) rfl plain (by kernel_rfl)
end lawPacketBytes
end Go.Proofs.YtdieaegajahdpaaDoor
