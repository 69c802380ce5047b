/- The law BankNone: a bank that isn't there: each of its calls answers that there is none, and nothing else happens. -/
import Derived.Test.YtdieaegajahdpaaDoorBankLives
import Derived.Test.YtdieaegajahdpaaDoorCards
import Derived.Test.YtdieaegajahdpaaDoorTie
import Derived.Deep.DeepHandedRow
import Derived.Lib.LaidTab
namespace Go.Proofs.YtdieaegajahdpaaDoor
open Go.ChangeShapes Go.WideShapes Go.ChangeAt Go.RowKit
set_option linter.unusedVariables false

set_option maxRecDepth 100000 in
set_option maxHeartbeats 4000000 in
theorem walk_BankNone (w : World) (first : Int) (h1 : -9223372036854775808 ≤ first) (h2 : first ≤ 9223372036854775807) (n : Int) (hn1 : -9223372036854775808 ≤ n) (hn2 : n ≤ 9223372036854775807) :
    Calls Tryd.prog 9 #[.int .i64 first, .int .i64 n] w fun e w' => e = .returned (.bool true) ∧ Below w.heap.size w w' := by
  have hz : ∀ w, (zeroValue 25).run Tryd.prog w = .ok (.agg zdig) w := fun w => by kernel_rfl
  have hsz : (Tryd.prog.info? 25).map (·.size) = some 32 := by kernel_rfl
  have h32 := zdig_size
  have hone := zdig_one
  go_enter Tryd.func9, Tryd.ntmps9
  go_wp2_with fail
  refine (lives15_any _).mono ?_
  rintro e w1 ⟨rfl, hb1⟩
  have HB1 := hide hb1
  have hbx := heap_alloc_new w1 (.cells #[fnil, .int .i64 first] 63)
  have c0 := cell_of_row _ w1.heap.size 0 _ _ _ hbx
  have c1 := cell_of_row _ w1.heap.size 1 _ _ _ hbx
  simp only [List.getElem?_toArray, List.getElem?_cons_zero, List.getElem?_cons_succ] at c0 c1
  obtain ⟨W, hW⟩ : ∃ W, W = w1.alloc (.cells #[fnil, .int .i64 first] 63) := ⟨_, rfl⟩
  have HW : Hid (Below w.heap.size w W) := hide (by rw [hW]; exact hb1.alloc hb1.size _)
  rw [← hW] at c0 c1
  have cs : ∀ (w' : World), Below W.heap.size W w' → w'.cell? ⟨w1.heap.size, 0, Option.none⟩ = some fnil ∧ w'.cell? ⟨w1.heap.size, 1, Option.none⟩ = some (.int .i64 first) := fun w' hb =>
    ⟨(hb.cell (p := ⟨w1.heap.size, 0, Option.none⟩) (World.block_lt_of_cell? W _ c0)).trans c0, (hb.cell (p := ⟨w1.heap.size, 1, Option.none⟩) (World.block_lt_of_cell? W _ c1)).trans c1⟩
  have Cs := hide cs
  clear hb1 hbx cs
  go_wp2_with fail
  rw [← hW]
  clear hW
  refine (bytes_nil first n h1 h2 _).mono ?_
  rintro e w2 ⟨rfl, hb2⟩
  obtain ⟨d0, d1⟩ := Cs.out w2 hb2
  have HB2 := hide hb2
  clear hb2 c0 c1
  go_wp2_with fail
  refine (sum_nil first n h1 h2 _).mono ?_
  rintro e w3 ⟨rfl, hb3⟩
  have HB3 := hide (HB2.out.trans (hb3.mono HB2.out.size))
  obtain ⟨d0, d1⟩ := Cs.out w3 HB3.out
  clear hb3
  go_wp2_with fail
  refine (digest_nil first n h1 h2 _).mono ?_
  rintro e w4 ⟨rfl, hb4⟩
  have HB4 := hide (HB3.out.trans (hb4.mono HB3.out.size))
  have hr := heap_alloc_new w4 (.cells zdig 25)
  have HB5 := hide (below_setRow (HB4.out.alloc HB4.out.size (.cells zdig 25)) (g := w4.heap.size) HB4.out.size zdig)
  obtain ⟨d0, d1⟩ := Cs.out _ HB5.out
  clear hb4
  go_wp2_with (refine wpList_store_row rfl _ _ _ rfl w4.heap.size zdig rfl rfl _ _ hr (by rw [h32]; exact hsz) rfl hone ?_)
  refine (clear_nil first 0 1 h1 h2 _).mono ?_
  rintro e w6 ⟨rfl, hb6⟩
  have HB6 := hide (HB5.out.trans (hb6.mono HB5.out.size))
  obtain ⟨d0, d1⟩ := Cs.out _ HB6.out
  clear hb6 hr
  go_wp2_with fail
  refine (write_nil first 0 h1 h2 _ _).mono ?_
  rintro e w7 ⟨rfl, hb7⟩
  have HB7 := hide (((HB6.out.alloc HB6.out.size (.cells #[.int .u8 1] 5)).alloc (by have := HB6.out.size; simp; omega) (.cells #[.slice (some ⟨w6.heap.size, 0, Option.none⟩) 1 1] 22)).trans (hb7.mono (by have := HB6.out.size; simp; omega)))
  clear hb7
  go_wp2_with fail
  go_ret
  exact ⟨rfl, HW.out.trans (HB7.out.mono HW.out.size)⟩
namespace lawBankNone
theorem own : ownKnob Tryd.prog.godebug = Option.none := by kernel_rfl
theorem laidOut : laidOutB Tryd.prog = true := by kernel_rfl

set_option maxRecDepth 100000 in
theorem contract (H : Type) (enc : TypeId × Value → H) (W : World) (base : Nat) (args : Array Value) (ds gs : List (DataW H)) (before : List MemPlace)
    (hval0 : ∀ (j : Nat) t v, Tryd.f9.params[j]? = some t → args[j]? = some v → Value.okWide Tryd.prog W .any base t v)
    (hW : DataW.Whole enc Tryd.prog Tryd.f9.params.toList Rows.bankNoneSpec.vars false W args.toList ds gs before) (hsz : (DataW.weightsEach Tryd.prog (Tryd.f9.params.toList ++ (OpenSpec.ofChange Rows.bankNoneSpec).bare.plain.varTypes Tryd.prog) (ds ++ gs)).all (· ≤ reachBytes) = true) (hL : laidMetH Tryd.prog Rows.bankNoneRow.laid W) :
    Calls Tryd.prog 9 args W fun e W' => ∃ v, e = .returned v ∧ Rows.bankNoneSpec.post enc Tryd.prog Tryd.f9 false true false false W args v W' := by
  have hval : ∀ (j : Nat) t v, Tryd.f9.params[j]? = some t → args[j]? = some v → Value.okWide Tryd.prog W .any base t v := hval0
  have hW' := hW
  obtain ⟨p, q, hA0, hV, rfl, hfz, hnd⟩ := hW
  have hA : DataW.TrodAll enc Tryd.prog W 0 (fun _ => true) true Tryd.f9.params.toList args.toList ds p := hA0
  rw [Tryd.params9] at hA hval
  obtain ⟨v0, vs0, d0, ds0, p0, q0, hargs, rfl, rfl, h0, r0⟩ := trodAll_cons hA
  obtain ⟨v1, vs1, d1, ds1, p1, q1, rfl, rfl, rfl, h1, r1⟩ := trodAll_cons r0
  obtain ⟨rfl, rfl, rfl⟩ := trodAll_nil r1
  obtain rfl : args = #[v0, v1] := by cases args; simp_all
  obtain ⟨rfl, rfl⟩ := trodVars_none hV
  have k0 := h0
  have lt0 : ∀ x ∈ p0, x.block < W.heap.size := by obtain ⟨m, hm⟩ := k0; exact DataW.trod_lt m _ _ _ hm
  obtain ⟨a0, rfl, rfl, rfl, w0⟩ := open_int Tryd.underlying3 (hval 0 3 v0 rfl rfl) h0
  obtain ⟨l0, u0⟩ := wf_i64 w0
  have k1 := h1
  have lt1 : ∀ x ∈ p1, x.block < W.heap.size := by obtain ⟨m, hm⟩ := k1; exact DataW.trod_lt m _ _ _ hm
  obtain ⟨a1, rfl, rfl, rfl, w1⟩ := open_int Tryd.underlying3 (hval 1 3 v1 rfl rfl) h1
  obtain ⟨l1, u1⟩ := wf_i64 w1
  clear hA0 hval0 hsz
  refine (walk_BankNone W a0 l0 u0 a1 l1 u1).mono fun e W' ⟨he, bel⟩ => ?_
  subst he
  exact ⟨_, rfl, _, _, _, [], _, [], hW', trodAll_mk1 (shut_bool Tryd.underlying4 _), (trodAll_cons_mk (shut_int Tryd.underlying3 w0) (trodAll_cons_mk (shut_int Tryd.underlying3 w1) trodAll_mk0)), rfl, bel.frame _, fun h => by cases h⟩

/-- a world for the witness: the settled one, the listed variables holding what their initialisers lay -/
def litCells (d : DataW Unit) : Array Value := match d with
  | .agg l => (l.filterMap fun x => match x with | .lit (.int k n) => some (Value.int k n) | _ => Option.none).toArray
  | _ => #[]
noncomputable def laidWorld (os : Os) : World :=
  { World.holding Tryd.prog os ⟨#[], #[], []⟩ with heap := (((World.holding Tryd.prog os ⟨#[], #[], []⟩).heap.modify 0 fun
      | .cells _ t frozen => .cells (litCells Rows.laid_bosun_shortsum_first) t frozen
      | o => o).modify 2 fun
      | .cells _ t frozen => .cells (litCells Rows.laid_bosun_shortsum_rounds) t frozen
      | o => o) }
theorem laid_met (os : Os) : laidMet Tryd.prog Rows.bankNoneRow.laid ((laidWorld os).forCall (fun _ _ => 0) ⟨#[], #[.int .i64 0, .int .i64 0], []⟩).memory :=
  laidMet_of_run' 8 (by kernel_rfl) (by kernel_rfl)
theorem reads (os : Os) {H : Type} (enc : TypeId × Value → H) : ∃ places, DataW.whole enc Tryd.prog ((laidWorld os).forCall (fun _ _ => 0) ⟨#[], #[.int .i64 0, .int .i64 0], []⟩).memory Tryd.f9.params.toList Rows.bankNoneSpec.vars false (#[.int .i64 0, .int .i64 0] : Array Value).toList 8 = some ([.lit (.int .i64 0), .lit (.int .i64 0)], [], places) :=
  ⟨[], by kernel_rfl⟩

set_option maxRecDepth 100000 in
theorem lifted (os : Os) (started : os.Started) (H : Type) (enc : TypeId × Value → H) (F : Stop.Interp) :
    ReturnsInHanded {} Tryd.checked os 9 .any ((OpenSpec.ofChange Rows.bankNoneSpec).preRow enc Tryd.prog Tryd.f9 Rows.bankNoneRow.domain false Rows.bankNoneRow.laid) (((OpenSpec.ofChange Rows.bankNoneSpec).at F).post enc Tryd.prog Tryd.f9 false true false false) := by
  obtain ⟨places, hx⟩ := reads os enc
  refine returnsInHanded_of_row (C := Tryd.checked) (s := OpenSpec.ofChange Rows.bankNoneSpec) own started (by kernel_rfl) Tryd.func9
    (witness_row_at (enc := enc) (C := Tryd.checked) false (laidWorld os) #[.int .i64 0, .int .i64 0] rfl (by kernel_rfl) (by kernel_rfl) (by kernel_rfl)
      (OpenSpec.preRow_of_cond 8 hx (by kernel_rfl) (fun k hk => by cases hk) (by kernel_rfl) (laid_met os))) ?_
  intro W base args ds gs before hval hW _ _ hsz hL _ _
  exact contract H enc W base args ds gs before hval hW hsz hL

theorem said : Rows.BankNoneSaid :=
  OpenClaim.holds_of_cond 9 Tryd.f9 rfl rfl rfl rfl rfl rfl rfl ⟨rfl, rfl, rfl, rfl, rfl⟩ rfl rfl rfl rfl rfl (by kernel_rfl) Tryd.func9 (by kernel_rfl)
    (of_decide_eq_true (by kernel_rfl)) (by unfold Func.isWrapper; first | (rw [if_pos (by decide +kernel)]; kernel_rfl) | (rw [if_neg (by decide +kernel)]; exact ⟨rfl, rfl⟩))
    (fun os started H enc _ F => by rw [OpenClaim.pre_eq_preRow]; exact lifted os started H enc F)

theorem plain (f : FuncId) (fn : Func) (hf : Tryd.pinned.checked.prog.funcNamed "bosun/bosunlaw15.BankNone" = some f) (hfn : Tryd.pinned.checked.prog.funcs[f]? = some fn) :
    false = Tryd.pinned.checked.prog.looks [] ∧ ∀ (j : Nat) t, fn.params[j]? = some t → Tryd.pinned.checked.prog.wantsStandIn t = false := by
  obtain rfl : f = 9 := Option.some.inj ((show Tryd.prog.funcNamed "bosun/bosunlaw15.BankNone" = some 9 by kernel_rfl).symm.trans hf) |>.symm
  obtain rfl : fn = Tryd.f9 := (Option.some.inj (Tryd.func9.symm.trans hfn)).symm
  refine ⟨by kernel_rfl, fun j t ht => ?_⟩
  rw [Tryd.params9] at ht
  have hm : t ∈ [3, 3] := by simpa using Array.mem_of_getElem? ht
  have hall : ∀ t ∈ [3, 3], Tryd.prog.wantsStandIn t = false := by
    intro t ht
    simp only [List.mem_cons, List.not_mem_nil, or_false] at ht
    rcases ht with rfl | rfl <;> kernel_rfl
  exact hall t hm

theorem proved : Rows.BankNoneCardSaid :=
  Claim7.holds_tied_plain_at .later [] _ _ _ _ said (fun _ h => by cases h) (by kernel_rfl) (fun _ h => by cases h) bankNone_row_tie rfl ⟨rfl, rfl⟩ (by kernel_rfl) rfl plain (by kernel_rfl)
end lawBankNone
end Go.Proofs.YtdieaegajahdpaaDoor
