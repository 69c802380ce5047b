/- The law LongsumDigests: the digest of any bytes. -/
import Derived.Test.YtdieaegajahdpaaDoorRef4L
import Derived.Test.YtdieaegajahdpaaDoorSha9L
import Derived.Test.YtdieaegajahdpaaDoorOpen
import Derived.Test.YtdieaegajahdpaaDoorLaidL
import Derived.Test.YtdieaegajahdpaaDoorCards
import Derived.Test.YtdieaegajahdpaaDoorTie
import Derived.Deep.DeepHandedRow
import Derived.Lib.LaidTab
namespace Go.Proofs.YtdieaegajahdpaaDoor
open Go.ChangeShapes Go.WideShapes Go.ChangeAt Go.RowKit
set_option linter.unusedVariables false
set_option linter.unusedSimpArgs false
open Sha64 in
set_option maxRecDepth 100000 in
set_option maxHeartbeats 8000000 in
theorem digests_Longsum (w : World) (v : Value) (b : List UInt8) (hb : IsBytes w v b) (hT : Tab w) :
    Calls Tryd.prog 5 #[v] w fun e w' => e = .returned (.bool true) ∧ Below w.heap.size w w' := by
  have Hb := hide hb
  have HT := hide hT
  obtain ⟨a, c, rfl, hc, hm, _, _⟩ := hb
  unfold maxLen at hm
  by_cases hlen : 1500 < b.length
  · have hL1 := lives_any w hT
    clear hT
    go_enter Tryd.func5, Tryd.ntmps5
    go_wp2_with fail
    refine hL1.mono ?_
    clear hL1
    rintro e w1 ⟨rfl, hb1⟩
    have hL2 := lives_any w1 (HT.out.below hb1)
    go_wp2_with fail
    refine hL2.mono ?_
    clear hL2
    rintro e w2 ⟨rfl, hb2⟩
    go_wp2
    go_ret
    exact ⟨rfl, hb1.trans (hb2.mono hb1.size)⟩
  · have hlen2 : b.length ≤ 1500 := by omega
    have hu := Tryd.underlying22
    have hu8 := Tryd.underlying5
    have hstr := Tryd.underlying9
    have hzd : ∀ w, (zeroValue 41).run Tryd.prog w = .ok (.agg (bv zD)) w := fun w => by kernel_rfl
    have hL1 := lives_any w hT
    clear hlen hT
    go_enter Tryd.func5, Tryd.ntmps5
    go_wp2_with fail
    refine hL1.mono ?_
    clear hL1
    rintro e w1 ⟨rfl, hb1⟩
    have Ho0 := hide (own_new (F := all w) 5 1 0 [] ((on_all w).below hb1) rfl (by decide))
    have Hv1 := hide ((Hb.out.below hb1).below ((Below.refl _ _).alloc (Nat.le_refl _) (.cells #[] 5)))
    have HS1 := hide (Str.below hb1)
    clear hb1
    go_wp2_with (at_builtin; refine wpList_append_bytes (F := all w) rfl _ _ 22 rfl 5 hu info8 _ [] b rfl Ho0.out _ rfl Hv1.out (by simp; omega) ?_; intro v2 w2 ho2 hs2; rw [List.nil_append] at ho2; have H2 := hide ho2; have HS2 := hide ((HS1.out.alloc _).trans hs2); obtain ⟨oa, oc, rfl, _, _, _, _⟩ := own_value ho2; clear ho2 hs2)
    have hR := IsRows.one (own_bytes H2.out) 22
    have hOf := of_any _ [b] _ hR (HT.out.all (H2.out.alloc' (.cells #[.slice oa b.length oc] 22)).right) (by simp; omega)
    simp only [List.flatten_cons, List.flatten_nil, List.append_nil] at hOf
    clear hR
    refine hOf.mono ?_
    clear hOf
    rintro e w3 ⟨rfl, hb3⟩
    have hw3 := SP.on.below (H2.out.alloc' (.cells #[.slice oa b.length oc] 22)) hb3
    have hr := hw3.alloc (.cells (bv zD) 41)
    have Hr := hide (on_blk_mul hr)
    have h4 := hr.setRow (bv (digest b))
    have HS4 := hide (((((HS2.out.alloc (.cells #[.slice oa b.length oc] 22))).trans (Str.below hb3)).alloc (.cells (bv zD) 41)).setRow w3.heap.size (bv (digest b)))
    have hdl := digest_len b
    have HsD : Hid ((Tryd.prog.info? 41).map (·.size) = some (bv (digest b)).size) := hide (by rw [bv_size, hdl]; kernel_rfl)
    have HzD : Hid ((bv zD).size = (bv (digest b)).size) := hide (by rw [bv_size, bv_size, hdl]; rfl)
    have HoD := hide (bv_one (digest b))
    have Hdl := hide hdl
    have HD : Hid (∀ X, Stay ((w3.alloc (.cells (bv zD) 41)).setRow w3.heap.size (bv (digest b))) X → Lay X (some ⟨w3.heap.size, 0, Option.none⟩) (vbs (digest b)) ∧ Lay X oa (vbs b) ∧ IsBytes X (.slice a b.length c) b) := hide fun X hX => by
      have h5 := SP.on.below h4 hX
      refine ⟨?_, ?_, Hb.out.all h5.right.right⟩
      · have := bv_lay h5 0
        rwa [List.drop_zero] at this
      · obtain ⟨_, _, e1, _, _, hl, _⟩ := own_value h5.right
        simp only [Value.slice.injEq] at e1
        obtain ⟨rfl, _, rfl⟩ := e1
        exact hl
    have HW4 := hide h4
    generalize hW2 : (w3.alloc (.cells (bv zD) 41)).setRow w3.heap.size (bv (digest b)) = w4 at *
    have HW2 := hide hW2
    generalize hDg : bv (digest b) = Dg at *
    clear hb3 hr h4 hW2 hw3 hdl hDg
    go_wp2_with (refine wpList_store_row rfl _ _ _ rfl w3.heap.size Dg rfl rfl _ _ Hr.out HsD.out HzD.out HoD.out ?_; rw [HW2.out])
    refine wp_region_vs [isV (.slice (some ⟨w3.heap.size, 0, Option.none⟩) 64 64), isV (.string (strOf (digest b))), isV (.agg fc), isV (.slice a b.length c), fun v X => IsBytes X v (digest b), isV (.string (strOf (digest b))), isV (.bool true), isV (.bool true), isV (.slice oa b.length oc), isV (.string (strOf b)), isV (.slice a b.length c), isV (.string (strOf b)), isV (.bool true), isV (.bool true), isV (.bool true)]
      (by kernel_rfl) (by kernel_rfl) rfl ?keep ?todo ?rest
    case keep => exact ⟨Keep.isV _, Keep.isV _, Keep.isV _, Keep.isV _, fun _ _ _ h k => IsBytes.below h k, Keep.isV _, Keep.isV _, Keep.isV _, Keep.isV _, Keep.isV _, Keep.isV _, Keep.isV _, Keep.isV _, Keep.isV _, Keep.isV _, trivial⟩
    case todo =>
      refine ⟨?_, ?_, ?_, ?_, ?_, ?_, ?_, ?_, ?_, ?_, ?_, ?_, ?_, ?_, ?_, trivial⟩
      · intro ev X hT hb hk hf
        have e0 : ev (.tmp 4) = .pointer (some ⟨w3.heap.size, 0, Option.none⟩) := hk.1
        exact OpOk.run (v := .slice (some ⟨w3.heap.size, 0, Option.none⟩) 64 64) (W' := X) (by have h9 := dig_whole w3.heap.size X; simp [execOp, e0, hb.1, h9, go_sem]) ⟨rfl, Stay.refl _⟩
      · intro ev X hT hb hk hf
        have e0 : ev (.tmp 19) = .slice (some ⟨w3.heap.size, 0, Option.none⟩) 64 64 := hf.1
        have h9 := run_string_of (P := Tryd.prog) (c := 64) hu hu8 (HD.out X hT).1 _ hstr
        rw [Hdl.out] at h9
        exact OpOk.convert rfl e0 h9 ⟨rfl, Stay.refl _⟩
      · intro ev X hT hb hk hf
        refine OpOk.enters (f := 19) (args := #[]) (W' := X) (by simp [execOp, resolve, invoke, hb.1, hb.2.1, go_sem]) ((short_any X).mono ?_)
        rintro e X2 ⟨rfl, h2⟩
        exact ⟨_, rfl, rfl, h2⟩
      · intro ev X hT hb hk hf
        have e0 : ev (.tmp 0) = .slice a b.length c := hk.1
        exact OpOk.move rfl e0 ⟨rfl, Stay.refl _⟩
      · intro ev X hT hb hk hf
        have e0 : ev (.tmp 21) = .agg fc := hf.1
        have e1 : ev (.tmp 22) = .slice a b.length c := hf.2.1
        refine OpOk.enters (f := 12) (args := #[.agg fc, .slice a b.length c]) (W' := X) (by simp [execOp, resolve, invoke, e0, e1, hb.1, hb.2.1, go_sem]) ((rsum_any _ b X (HD.out X hT).2.2 (by omega)).mono ?_)
        rintro e X2 ⟨v5, rfl, h5, h6⟩
        exact ⟨_, rfl, own_bytes h5, all_below h5.right h6⟩
      · intro ev X hT hb hk hf
        have e0 := hf.1
        obtain ⟨a5, c5, e5, _, _, hl5, _⟩ := e0
        exact OpOk.convert rfl e5 (run_string_of (P := Tryd.prog) (c := c5) hu hu8 hl5 _ hstr) ⟨rfl, Stay.refl _⟩
      · intro ev X hT hb hk hf
        have e0 : ev (.tmp 20) = .string (strOf (digest b)) := hf.1
        have e1 : ev (.tmp 24) = .string (strOf (digest b)) := hf.2.1
        exact OpOk.run (v := .bool true) (W' := X) (by simp [execOp, e0, e1, hb.1, go_sem]) ⟨rfl, Stay.refl _⟩
      · intro ev X hT hb hk hf
        have e0 : ev (.tmp 25) = .bool true := hf.1
        exact OpOk.move rfl e0 ⟨rfl, Stay.refl _⟩
      · intro ev X hT hb hk hf
        refine ⟨true, hf.1, fun _ => ?_, fun h => (h rfl).elim⟩
        have e0 : ev (.tmp 3) = .slice oa b.length oc := hk.1
        exact OpOk.move rfl e0 ⟨rfl, Stay.refl _⟩
      · intro ev X hT hb hk hf
        refine ⟨true, hf.2.1, fun _ => ?_, fun h => (h rfl).elim⟩
        have e0 : ev (.tmp 27) = .slice oa b.length oc := hf.1
        exact OpOk.convert rfl e0 (run_string_of (P := Tryd.prog) (c := oc) hu hu8 (HD.out X hT).2.1 _ hstr) ⟨rfl, Stay.refl _⟩
      · intro ev X hT hb hk hf
        refine ⟨true, hf.1, fun _ => ?_, fun h => (h rfl).elim⟩
        have e0 : ev (.tmp 0) = .slice a b.length c := hk.1
        exact OpOk.move rfl e0 ⟨rfl, Stay.refl _⟩
      · intro ev X hT hb hk hf
        refine ⟨true, hf.2.1, fun _ => ?_, fun h => (h rfl).elim⟩
        have e0 : ev (.tmp 29) = .slice a b.length c := hf.1
        obtain ⟨a5, c5, e5, _, _, hl5, _⟩ := (HD.out X hT).2.2
        simp only [Value.slice.injEq] at e5
        obtain ⟨rfl, _, rfl⟩ := e5
        exact OpOk.convert rfl e0 (run_string_of (P := Tryd.prog) (c := c) hu hu8 hl5 _ hstr) ⟨rfl, Stay.refl _⟩
      · intro ev X hT hb hk hf
        refine ⟨true, hf.2.2.1, fun _ => ?_, fun h => (h rfl).elim⟩
        have e0 : ev (.tmp 28) = .string (strOf b) := hf.1
        have e1 : ev (.tmp 30) = .string (strOf b) := hf.2.1
        exact OpOk.run (v := .bool true) (W' := X) (by simp [execOp, e0, e1, hb.1, go_sem]) ⟨rfl, Stay.refl _⟩
      · intro ev X hT hb hk hf
        have e0 : ev (.tmp 26) = .bool true := hf.1
        have e1 : ev (.tmp 31) = .bool true := hf.2.1
        exact OpOk.run (v := .bool true) (W' := X) (by simp [execOp, e0, e1, hb, hb.1, hb.2.1, hb.2.2, go_sem]) ⟨rfl, Stay.refl _⟩
      · intro ev X hT hb hk hf
        have e0 : ev (.tmp 32) = .bool true := hf.1
        exact OpOk.assign rfl e0 ⟨rfl, Stay.refl _⟩
    case rest =>
      intro X hT
      rintro _ rfl _ rfl _ rfl _ rfl _ - _ rfl _ rfl _ rfl _ rfl _ rfl _ rfl _ rfl _ rfl _ rfl _ rfl
      have hB := all_below (SP.on.below HW4.out hT).right.right (HS4.out.trans (Str.below hT))
      go_wp2
      refine Rest.done ?_
      go_wp2
      go_ret
      exact ⟨rfl, hB⟩
theorem walk_LongsumDigests (w : World) (hL : laidMetH Tryd.prog Rows.longsumDigestsRow.laid w) (v : Value) (b : List UInt8) (hb : IsBytes w v b) :
    Calls Tryd.prog 5 #[v] w fun e w' => e = .returned (.bool true) ∧ Below w.heap.size w w' := digests_Longsum w v b hb (Sha64.tab_of_laid hL)

namespace lawLongsumDigests
theorem own : ownKnob Tryd.prog.godebug = Option.none := by kernel_rfl
theorem laidOut : laidOutB Tryd.prog = true := by kernel_rfl

set_option maxRecDepth 100000 in
theorem contract (H : Type) (enc : TypeId × Value → H) (W : World) (base : Nat) (args : Array Value) (ds gs : List (DataW H)) (before : List MemPlace)
    (hval0 : ∀ (j : Nat) t v, Tryd.f5.params[j]? = some t → args[j]? = some v → Value.okWide Tryd.prog W .any base t v)
    (hW : DataW.Whole enc Tryd.prog Tryd.f5.params.toList Rows.longsumDigestsSpec.vars false W args.toList ds gs before) (hsz : (DataW.weightsEach Tryd.prog (Tryd.f5.params.toList ++ (OpenSpec.ofChange Rows.longsumDigestsSpec).bare.plain.varTypes Tryd.prog) (ds ++ gs)).all (· ≤ reachBytes) = true) (hL : laidMetH Tryd.prog Rows.longsumDigestsRow.laid W) :
    Calls Tryd.prog 5 args W fun e W' => ∃ v, e = .returned v ∧ Rows.longsumDigestsSpec.post enc Tryd.prog Tryd.f5 false true false false W args v W' := by
  have hval : ∀ (j : Nat) t v, Tryd.f5.params[j]? = some t → args[j]? = some v → Value.okWide Tryd.prog W .any base t v := hval0
  have hW' := hW
  obtain ⟨p, q, hA0, hV, rfl, hfz, hnd⟩ := hW
  have hA : DataW.TrodAll enc Tryd.prog W 0 (fun _ => true) true Tryd.f5.params.toList args.toList ds p := hA0
  rw [Tryd.params5] at hA hval
  obtain ⟨v0, vs0, d0, ds0, p0, q0, hargs, rfl, rfl, h0, r0⟩ := trodAll_cons hA
  obtain ⟨rfl, rfl, rfl⟩ := trodAll_nil r0
  obtain rfl : args = #[v0] := by cases args; simp_all
  obtain ⟨rfl, rfl⟩ := trodVars_none hV
  have k0 := h0
  have lt0 : ∀ x ∈ p0, x.block < W.heap.size := by obtain ⟨m, hm⟩ := k0; exact DataW.trod_lt m _ _ _ hm
  obtain ⟨l0, b0, n0⟩ := open_bytes Tryd.underlying22 Tryd.underlying5 (by kernel_rfl) (hval 0 22 v0 rfl rfl) h0
  clear hA0 hval0 hsz
  refine (walk_LongsumDigests W hL v0 l0 b0).mono fun e W' ⟨he, bel⟩ => ?_
  subst he
  exact ⟨_, rfl, _, _, _, [], _, [], hW', trodAll_mk1 (shut_bool Tryd.underlying4 _), (trodAll_cons_mk (Below.trod laidOut (by kernel_rfl) (of_decide_eq_true (by kernel_rfl)) k0 bel lt0) trodAll_mk0), rfl, bel.frame _, fun h => by cases h⟩

/-- a world for the witness: the settled one, the listed variables holding what their initialisers lay -/
def litCells (d : DataW Unit) : Array Value := match d with
  | .agg l => (l.filterMap fun x => match x with | .lit (.int k n) => some (Value.int k n) | _ => Option.none).toArray
  | _ => #[]
noncomputable def laidWorld (os : Os) : World :=
  { World.holding Tryd.prog os ⟨#[], #[], []⟩ with heap := (((World.holding Tryd.prog os ⟨#[], #[], []⟩).heap.modify 1 fun
      | .cells _ t frozen => .cells (litCells Rows.laid_bosun_longsum_first) t frozen
      | o => o).modify 3 fun
      | .cells _ t frozen => .cells (litCells Rows.laid_bosun_longsum_rounds) t frozen
      | o => o) }
theorem laid_met (os : Os) : laidMet Tryd.prog Rows.longsumDigestsRow.laid ((laidWorld os).forCall (fun _ _ => 0) ⟨#[], #[.slice Option.none 0 0], []⟩).memory :=
  laidMet_of_run' 8 (by kernel_rfl) (by kernel_rfl)
theorem reads (os : Os) {H : Type} (enc : TypeId × Value → H) : ∃ places, DataW.whole enc Tryd.prog ((laidWorld os).forCall (fun _ _ => 0) ⟨#[], #[.slice Option.none 0 0], []⟩).memory Tryd.f5.params.toList Rows.longsumDigestsSpec.vars false (#[.slice Option.none 0 0] : Array Value).toList 8 = some ([.nil], [], places) :=
  ⟨[], by kernel_rfl⟩

set_option maxRecDepth 100000 in
theorem lifted (os : Os) (started : os.Started) (H : Type) (enc : TypeId × Value → H) (F : Stop.Interp) :
    ReturnsInHanded {} Tryd.checked os 5 .any ((OpenSpec.ofChange Rows.longsumDigestsSpec).preRow enc Tryd.prog Tryd.f5 Rows.longsumDigestsRow.domain false Rows.longsumDigestsRow.laid) (((OpenSpec.ofChange Rows.longsumDigestsSpec).at F).post enc Tryd.prog Tryd.f5 false true false false) := by
  obtain ⟨places, hx⟩ := reads os enc
  refine returnsInHanded_of_row (C := Tryd.checked) (s := OpenSpec.ofChange Rows.longsumDigestsSpec) own started (by kernel_rfl) Tryd.func5
    (witness_row_at (enc := enc) (C := Tryd.checked) false (laidWorld os) #[.slice Option.none 0 0] rfl (by kernel_rfl) (by kernel_rfl) (by kernel_rfl)
      (OpenSpec.preRow_of_cond 8 hx (by kernel_rfl) (fun k hk => by cases hk) (by kernel_rfl) (laid_met os))) ?_
  intro W base args ds gs before hval hW _ _ hsz hL _ _
  exact contract H enc W base args ds gs before hval hW hsz hL

theorem said : Rows.LongsumDigestsSaid :=
  OpenClaim.holds_of_cond 5 Tryd.f5 rfl rfl rfl rfl rfl rfl rfl ⟨rfl, rfl, rfl, rfl, rfl⟩ rfl rfl rfl rfl rfl (by kernel_rfl) Tryd.func5 (by kernel_rfl)
    (of_decide_eq_true (by kernel_rfl)) (by unfold Func.isWrapper; first | (rw [if_pos (by decide +kernel)]; kernel_rfl) | (rw [if_neg (by decide +kernel)]; exact ⟨rfl, rfl⟩))
    (fun os started H enc _ F => by rw [OpenClaim.pre_eq_preRow]; exact lifted os started H enc F)

theorem plain (f : FuncId) (fn : Func) (hf : Tryd.pinned.checked.prog.funcNamed "bosun/bosunlaw04.LongsumDigests" = some f) (hfn : Tryd.pinned.checked.prog.funcs[f]? = some fn) :
    false = Tryd.pinned.checked.prog.looks [] ∧ ∀ (j : Nat) t, fn.params[j]? = some t → Tryd.pinned.checked.prog.wantsStandIn t = false := by
  obtain rfl : f = 5 := Option.some.inj ((show Tryd.prog.funcNamed "bosun/bosunlaw04.LongsumDigests" = some 5 by kernel_rfl).symm.trans hf) |>.symm
  obtain rfl : fn = Tryd.f5 := (Option.some.inj (Tryd.func5.symm.trans hfn)).symm
  refine ⟨by kernel_rfl, fun j t ht => ?_⟩
  rw [Tryd.params5] at ht
  have hm : t ∈ [22] := by simpa using Array.mem_of_getElem? ht
  have hall : ∀ t ∈ [22], Tryd.prog.wantsStandIn t = false := by
    intro t ht
    simp only [List.mem_cons, List.not_mem_nil, or_false] at ht
    rcases ht with rfl <;> kernel_rfl
  exact hall t hm

theorem proved : Rows.LongsumDigestsCardSaid :=
  Claim7.holds_tied_plain_at .later [] _ _ _ _ said (fun _ h => by cases h) (by kernel_rfl) (fun _ h => by cases h) longsumDigests_row_tie rfl ⟨rfl, rfl⟩ (by kernel_rfl) rfl plain (by kernel_rfl)
end lawLongsumDigests
end Go.Proofs.YtdieaegajahdpaaDoor
