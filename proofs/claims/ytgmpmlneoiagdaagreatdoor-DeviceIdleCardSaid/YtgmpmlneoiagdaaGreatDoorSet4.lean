/- settings: Load. -/
import Derived.Test.YtgmpmlneoiagdaaGreatDoorGBase2
import Derived.Test.YtgmpmlneoiagdaaGreatDoorSet3
namespace Go.Proofs.YtgmpmlneoiagdaaGreatDoor
open Go.ChangeShapes Go.WideShapes Go.ChangeAt Go.RowKit
set_option linter.unusedVariables false
set_option linter.unusedSimpArgs false

theorem vList_same {L : List (Value → World → Prop)} (h : ∀ P ∈ L, ∀ v w w', P v w → P v w') (i : Nat) (v : Value) (w w' : World) (hv : vList L i v w) : vList L i v w' := by
  unfold vList at hv ⊢
  cases hq : L[i]? with
  | none => rw [hq] at hv; exact hv
  | some P => rw [hq] at hv; exact h P (List.mem_of_getElem? hq) v w w' hv
theorem results_cell_row_two {P : Program} {fn : Func} {p u u2 : Tmp} {ty : TypeId} (h : fn.results = #[.cell p ty, .tmp u, .tmp u2]) (tmps : Array Value) (w : World) (g : Nat) (t : TypeId) (cs : Array Value) (fr : Nat × Nat) (d : TypeDesc)
    (hp : tmps.getD p undef = .pointer (some ⟨g, 0, Option.none⟩)) (hg : w.heap[g]? = some (.cells cs t fr))
    (hu : P.underlying ty = some d) (hd : (match d with | .struct _ | .array _ _ => true | _ => false) = true) (hi : (P.info? ty).map (·.size) = some cs.size) (x y : Value) (hx : tmps.getD u undef = x) (hy : tmps.getD u2 undef = y) :
    (results fn tmps).run P w = .ok (.tuple #[.agg cs, x, y]) w := by
  have hp' : tmps[p]?.getD undef = .pointer (some ⟨g, 0, Option.none⟩) := by simpa using hp
  have hx' : tmps[u]?.getD undef = x := by simpa using hx
  have hy' : tmps[u2]?.getD undef = y := by simpa using hy
  simp [results, h, hp', hx', hy', asAddr, run_loadVar_row w g t ty cs fr d hg hu hd hi]
theorem st_part (s : RecS) (iv : Value) (page : Nat) (X : World) (g : Nat) (t : TypeId) (hX : X.heap[g]? = some (.cells (stCells s iv page) t (0, 0))) : ∀ j v, (recCells s iv)[j]? = some v → X.cell? ⟨g, 0 + j, Option.none⟩ = some v := by
  intro j v hv
  rw [Nat.zero_add, cell_of_row _ _ _ _ _ _ hX]
  unfold recCells at hv
  unfold stCells
  match j, hv with
  | 0, hv => exact hv
  | 1, hv => exact hv
  | 2, hv => exact hv
  | 3, hv => exact hv
  | 4, hv => exact hv
  | 5, hv => exact hv
  | 6, hv => exact hv
  | n + 7, hv => simp at hv

set_option maxRecDepth 100000 in
set_option maxHeartbeats 8000000 in
theorem load_of (fv : Value) (X : RecS × Nat × Nat) (w : World) (hN : Calls Tryz.prog 21 #[fv] (w.alloc (.cells (recCells zeroS nilV) 31)) (NewEnd X (w.alloc (.cells (recCells zeroS nilV) 31)))) :
    Calls Tryz.prog 61 #[fv] w (LoadEnd X w) := by
  have hus := Tryz.underlying58
  have hur := Tryz.underlying31
  have hz := rc_hz
  have hzs := st_hz
  have H0 := hide ((on_all w).alloc (.cells (recCells zeroS nilV) 31))
  have S0 := hide ((Str.refl w).alloc (.cells (recCells zeroS nilV) 31))
  obtain ⟨R, pg, er⟩ := X
  go_enter Tryz.func61, Tryz.ntmps61
  go_wp2_with fail
  refine hN.mono ?_
  clear hN
  rintro e w1 ⟨iv, rfl, ho, hs⟩
  have HoS := hide (st_one (s := R) (own_slice ho) pg)
  have HsS := hide (st_info R iv pg)
  have HoR := hide (rc_one (s := R) (own_slice ho))
  have HsR := hide (rc_info R iv)
  have h1 := ((on_all_to ho H0.out).alloc (.cells (stCells zeroS nilV 0) 58))
  have gN := on_blk_mul h1
  have h2 := h1.setRow (stCells R iv pg)
  have H2 : Hid ((blk w.heap.size (.cells (recCells zeroS nilV) 31 (0, 0)) * (blk w1.heap.size (.cells (stCells R iv pg) 58 (0, 0)) * (ownR iv R.init * all w))).on ((w1.alloc (.cells (stCells zeroS nilV 0) 58)).setRow w1.heap.size (stCells R iv pg))) := hide (by
    rw [SP.mul_left_comm (ownR iv R.init), SP.mul_left_comm (blk w1.heap.size _)] at h2
    exact h2)
  have S2 := hide (((S0.out.trans hs).alloc (.cells (stCells zeroS nilV 0) 58)).setRow w1.heap.size (stCells R iv pg))
  clear ho hs h1 h2 H0 S0
  go_wp2_with (first
    | (refine wpList_store_row rfl _ _ _ rfl w1.heap.size (stCells R iv pg) rfl rfl _ _ gN HsS.out rfl HoS.out ?_))
  generalize (w1.alloc (.cells (stCells zeroS nilV 0) 58)).setRow w1.heap.size (stCells R iv pg) = w2 at *
  generalize w1.heap.size = gS at *
  clear gN
  refine AppK.wp_region_set 5 [isV (.pointer (some ⟨gS, 0, Option.none⟩)), isV (.agg (recCells R iv)), isV (.pointer (some ⟨gS, 7, Option.none⟩)), isV (.int .i64 (pg : Int)), isV (.int .i64 (er : Int)), (fun _ _ => True), isV (.int .i64 (pg : Int)), isV (.int .i64 (er : Int))]
    [isV (.pointer (some ⟨gS, 0, Option.none⟩)), isV (.agg (recCells R iv)), isV (.pointer (some ⟨gS, 7, Option.none⟩)), isV (.int .i64 (pg : Int)), isV (.int .i64 (er : Int)), (fun _ _ => True), isV (.int .i64 (pg : Int)), isV (.int .i64 (er : Int))] _ rfl (by kernel_rfl) (by kernel_rfl) rfl (by decide) (.inr rfl) (fun ph X => (blk w.heap.size (.cells (if ph = true then recCells R iv else recCells zeroS nilV) 31 (0, 0)) * (blk gS (.cells (stCells R iv pg) 58 (0, 0)) * (ownR iv R.init * all w))).on X ∧ Str w X) ⟨SP.on.drew H2.out, Str.drew S2.out⟩ (fun ph a b h st => ⟨h.1.below st, h.2.trans (Str.below st)⟩) ?keep ?keep2 ?store ?todo ?rest
  case keep => exact ⟨Keep.isV _, Keep.isV _, Keep.isV _, Keep.isV _, Keep.isV _, fun _ _ _ h _ => h, Keep.isV _, Keep.isV _, trivial⟩
  case keep2 => exact ⟨Keep.isV _, Keep.isV _, Keep.isV _, Keep.isV _, Keep.isV _, fun _ _ _ h _ => h, Keep.isV _, Keep.isV _, trivial⟩
  case store =>
    intro ev X hT hb hk hf
    have e0 : ev (.tmp 2) = .pointer (some ⟨w.heap.size, 0, Option.none⟩) := hk.1
    have e1 : ev (.tmp 13) = .agg (recCells R iv) := hf.1
    have hX : (blk w.heap.size (.cells (recCells zeroS nilV) 31 (0, 0)) * (blk gS (.cells (stCells R iv pg) 58 (0, 0)) * (ownR iv R.init * all w))).on X := hT.1
    exact OpOk.store_agg _ _ _ rfl w.heap.size (recCells R iv) e0 e1 _ (recCells zeroS nilV) hX HsR.out rfl HoR.out (fun h3 => ⟨⟨h3, hT.2.setRow _ _⟩, trivial, fun i _ hv => vList_same (by
      intro P hP
      simp only [List.mem_cons, List.not_mem_nil, or_false] at hP
      rcases hP with rfl | rfl | rfl | rfl | rfl | rfl | rfl | rfl <;> exact fun _ _ _ h => h) i _ _ _ hv⟩)
  case todo =>
    refine ⟨?_, ?_, ?_, ?_, ?_, ?_, ?_, ?_, trivial⟩
    · intro _ ph h1 h2
      obtain rfl : ph = false := h2 (by kernel_rfl)
      intro ev X hT hb hk hf
      have e0 : ev (.tmp 5) = .pointer (some ⟨gS, 0, Option.none⟩) := hk.1
      exact OpOk.run (v := .pointer (some ⟨gS, 0, Option.none⟩)) (W' := X) (by simp [execOp, e0, hus, go_sem]) ⟨rfl, Stay.refl _⟩
    · intro _ ph h1 h2
      obtain rfl : ph = false := h2 (by kernel_rfl)
      intro ev X hT hb hk hf
      have e0 : ev (.tmp 12) = .pointer (some ⟨gS, 0, Option.none⟩) := hf.1
      exact OpOk.load_part _ _ rfl gS 0 e0 (recCells R iv) _ (st_part R iv pg X gS _ (on_blk_mul hT.1.right)) hur rfl HsR.out ⟨rfl, Stay.refl _⟩
    · intro _ ph h1 h2
      cases ph
      all_goals
        intro ev X hT hb hk hf
        have e0 : ev (.tmp 5) = .pointer (some ⟨gS, 0, Option.none⟩) := hk.1
        exact OpOk.run (v := .pointer (some ⟨gS, 7, Option.none⟩)) (W' := X) (by simp [execOp, e0, hus, go_sem]) ⟨rfl, Stay.refl _⟩
    · intro _ ph h1 h2
      cases ph
      all_goals
        intro ev X hT hb hk hf
        have e0 : ev (.tmp 14) = .pointer (some ⟨gS, 7, Option.none⟩) := hf.1
        have cW : X.cell? ⟨gS, 7, Option.none⟩ = some (.int .i64 (pg : Int)) := cell_of_row X gS 7 _ _ _ (on_blk_mul hT.1.right)
        exact OpOk.run (v := .int .i64 (pg : Int)) (W' := X) (by simp [execOp, e0, cW, go_sem]) ⟨rfl, Stay.refl _⟩
    · intro _ ph h1 h2
      cases ph
      all_goals
        intro ev X hT hb hk hf
        have e0 : ev (.tmp 6) = .int .i64 (er : Int) := hk.1
        exact OpOk.move rfl e0 ⟨rfl, Stay.refl _⟩
    · exact fun h => absurd rfl h
    · intro _ ph h1 h2
      obtain rfl : ph = true := h1 (by kernel_rfl)
      intro ev X hT hb hk hf
      have e0 : ev (.tmp 15) = .int .i64 (pg : Int) := hf.1
      exact OpOk.assign rfl e0 ⟨rfl, Stay.refl _⟩
    · intro _ ph h1 h2
      obtain rfl : ph = true := h1 (by kernel_rfl)
      intro ev X hT hb hk hf
      have e0 : ev (.tmp 16) = .int .i64 (er : Int) := hf.1
      exact OpOk.assign rfl e0 ⟨rfl, Stay.refl _⟩
  case rest =>
    intro X hT
    rintro _ - _ - _ - _ - _ - _ - _ rfl _ rfl
    have hX2 : (blk w.heap.size (.cells (recCells R iv) 31 (0, 0)) * (blk gS (.cells (stCells R iv pg) 58 (0, 0)) * (ownR iv R.init * all w))).on X := hT.1
    have HX2 := hide hX2
    have HST := hide hT.2
    have gR := on_blk_mul hX2
    clear hT hX2 H2 S2
    go_wp2
    refine Rest.done ?_
    go_wp2_with fail
    refine bodyPost_ret (v := .tuple #[.agg (recCells R iv), .int .i64 (pg : Int), .int .i64 (er : Int)]) (results_cell_row_two Tryz.results61 _ _ w.heap.size _ (recCells R iv) (0, 0) _ rfl gR hur rfl HsR.out (.int .i64 (pg : Int)) (.int .i64 (er : Int)) rfl rfl) rfl ?_
    exact ⟨iv, rfl, HX2.out.right.right, HST.out⟩
theorem load_any (p : Nat) (s : FlS) (F : SP) (w : World) (h : (Flash p s * F).on w) (ok : s.Ok) :
    Calls Tryz.prog 61 #[fptr p] w (LoadEnd s.load w) := load_of _ _ _ (newest_any p s F _ (h.alloc' _) ok)
end Go.Proofs.YtgmpmlneoiagdaaGreatDoor
