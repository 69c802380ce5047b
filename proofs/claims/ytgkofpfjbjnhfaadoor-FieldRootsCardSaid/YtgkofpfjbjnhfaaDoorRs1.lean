/- the document's scalar: the order; is a number below another one. -/
import Derived.Test.YtgkofpfjbjnhfaaDoorSc12
namespace Go.Proofs.YtgkofpfjbjnhfaaDoor
open Go.ChangeShapes Go.WideShapes Go.ChangeAt Go.RowKit
set_option linter.unusedVariables false
set_option linter.unusedSimpArgs false

theorem q4_O6 : q4 O6 = #[.int .u64 6346243789798364141, .int .u64 1503914060200516822, .int .u64 0, .int .u64 1152921504606846976] := by
  rw [show q4 O6 = lvs (qs 4 O6) from rfl, show qs 4 O6 = [6346243789798364141, 1503914060200516822, 0, 1152921504606846976] by decide]; rfl
theorem wpList_build_L {ops : Array Oper} {rest : List Oper} {o : Oper} {a : Act} {w : World} {Q : Exit → Act → World → Prop} (hgd : o.guard = Option.none)
    (ho : o.op = .build 23 #[(0, .const (.int .u64 6346243789798364141)), (1, .const (.int .u64 1503914060200516822)), (2, .const (.int .u64 0)), (3, .const (.int .u64 1152921504606846976))])
    (hk : wpList Tryd.prog ops Q rest (a.put o.dst (.agg (q4 O6))) w) : wpList Tryd.prog ops Q (o :: rest) a w := by
  have hb0 : ∀ w, (Instr.build 23 #[(0, .int .u64 6346243789798364141), (1, .int .u64 1503914060200516822), (2, .int .u64 0), (3, .int .u64 1152921504606846976)]).run Tryd.prog w = .ok (.agg (q4 O6)) w := fun w => by rw [q4_O6]; kernel_rfl
  have h0 : ∀ c, a.eval (.const c) = c := fun _ => rfl
  have hr : (execOp a.eval o).run Tryd.prog w = .ok (.value (.agg (q4 O6))) w := by
    unfold execOp
    rw [ho]
    simp only [List.map_toArray, List.map_cons, List.map_nil, h0]
    rw [Sem.run_bind, hb0]
    rfl
  exact wpList_plain hgd fun _ hK => by
    unfold Oper.wp
    simp only [hr]
    exact hK _ _ hk
set_option maxRecDepth 100000 in
set_option maxHeartbeats 1000000 in
theorem rl_any (w : World) : Calls Tryd.prog 64 #[] w fun e w' => e = .returned (.agg (q4 O6)) ∧ Below w.heap.size w w' := by
  have hu := Tryd.underlying23
  have hz : ∀ w, (zeroValue 23).run Tryd.prog w = .ok (.agg (q4 0)) w := fun w => by rw [qz4]; kernel_rfl
  have HsR : Hid ((Tryd.prog.info? 23).map (·.size) = some (q4 O6).size) := hide (by rw [q4_size]; kernel_rfl)
  have hone : (q4 O6).all (·.oneCell') = true := lvs_one _
  have hza : (q4 0).size = (q4 O6).size := by rw [q4_size, q4_size]
  have gR := heap_alloc_new w (.cells (q4 0) 23)
  have HB := hide ((Below.refl w.heap.size w).alloc (Nat.le_refl _) (.cells (q4 0) 23))
  generalize q4 0 = Z4 at *
  go_enter Tryd.func64, Tryd.ntmps64
  go_wp2_with (first
    | (refine wpList_build_L rfl rfl ?_)
    | (refine wpList_store_row rfl _ _ _ rfl w.heap.size (q4 O6) rfl rfl _ _ gR HsR.out hza hone ?_))
  refine bodyPost_ret (v := .agg (q4 O6)) (results_cell_row Tryd.results64 _ _ w.heap.size _ (q4 O6) (0, 0) _ rfl (setRow_heap_same _ _ _ _ _ _ gR) hu rfl HsR.out) rfl ⟨rfl, below_setRow HB.out (Nat.le_refl _) _⟩

theorem lt_limb (a b k : Nat) (h : a / 18446744073709551616 ^ (k + 1) = b / 18446744073709551616 ^ (k + 1)) : (limb a k ≠ limb b k → (decide (limb a k < limb b k) = decide (a < b))) ∧ (limb a k = limb b k → a / 18446744073709551616 ^ k = b / 18446744073709551616 ^ k) := by
  have hp := pB k
  have e : ∀ n : Nat, n = n % 18446744073709551616 ^ k + 18446744073709551616 ^ k * limb n k + 18446744073709551616 ^ (k + 1) * (n / 18446744073709551616 ^ (k + 1)) := fun n => by
    rw [← mod_limb, Nat.mod_add_div]
  have ha := e a
  have hb := e b
  have h1 := Nat.mod_lt a hp
  have h2 := Nat.mod_lt b hp
  constructor
  · intro hne
    apply decide_eq_decide.2
    have key := lt_split (18446744073709551616 ^ k) (a % 18446744073709551616 ^ k) (b % 18446744073709551616 ^ k) (limb a k) (limb b k) h1 h2
    rw [h] at ha
    constructor
    · intro hl
      have := key.2 (by split <;> omega)
      omega
    · intro hl
      have := key.1 (by omega)
      split at this <;> omega
  · intro he
    have q : ∀ n : Nat, n / 18446744073709551616 ^ k = limb n k + 18446744073709551616 * (n / 18446744073709551616 ^ (k + 1)) := fun n => by
      unfold limb
      rw [Nat.pow_succ, ← Nat.div_div_eq_div_mul, Nat.mod_add_div]
    rw [q a, q b, he, h]

set_option maxRecDepth 100000 in
set_option maxHeartbeats 4000000 in
theorem below_any (a b : Nat) (ha : a < 18446744073709551616 ^ 4) (hb : b < 18446744073709551616 ^ 4) (w : World) :
    Calls Tryd.prog 68 #[.agg (q4 a), .agg (q4 b)] w fun e w' => e = .returned (.bool (decide (a < b))) ∧ Below w.heap.size w w' := by
  have hu := Tryd.underlying23
  have hu6 := Tryd.underlying22
  have h0 := ((on_all w).alloc (.cells (q4 a) 23)).alloc (.cells (q4 b) 23)
  have hs0 := ((Str.refl w).alloc (.cells (q4 a) 23)).alloc (.cells (q4 b) 23)
  simp only [World.size_alloc] at h0
  have H0 := hide h0
  have HS0 := hide hs0
  have Hend := hide (show a / 18446744073709551616 ^ 4 = b / 18446744073709551616 ^ 4 by rw [Nat.div_eq_of_lt ha, Nat.div_eq_of_lt hb])
  clear h0 hs0 ha hb
  generalize hA : q4 a = A4 at *
  generalize hB : q4 b = B4 at *
  have HA := hide hA
  have HB := hide hB
  clear hA hB
  go_enter Tryd.func68, Tryd.ntmps68
  go_wp2_with fail
  generalize (w.alloc (.cells A4 23)).alloc (.cells B4 23) = w1 at *
  go_loopw [5] (fun i wr => ∃ k : Nat, k ≤ 4 ∧ i = .int .i64 ((k : Int) - 1) ∧ a / 18446744073709551616 ^ k = b / 18446744073709551616 ^ k ∧ (blk (w.heap.size + 1) (.cells B4 23 (0, 0)) * (blk w.heap.size (.cells A4 23 (0, 0)) * all w)).on wr ∧ Str w wr) (fun i _ => (intOf i + 1).toNat)
  case atStart => exact ⟨4, by omega, rfl, Hend.out, H0.out, HS0.out⟩
  case round =>
    obtain ⟨k, hk, rfl, heq, hX, hS2⟩ := hrel
    have HXk := hide hX
    have HSk := hide hS2
    have Heq := hide heq
    clear hX hS2 H0 HS0 heq Hend
    cases k with
    | zero =>
      have HN := hide (show decide (a < b) = false by
        have := Heq.out
        rw [Nat.pow_zero, Nat.div_one, Nat.div_one] at this
        rw [this]; simp)
      have HBw := hide (all_below HXk.out.right.right HSk.out)
      go_wp2_with fail
      go_ret
      exact ⟨by rw [HN.out]; rfl, HBw.out⟩
    | succ k =>
      have hk4 : k < 4 := by omega
      have HcA : Hid (∀ X, (blk w.heap.size (.cells A4 23 (0, 0)) * all w).on X → X.cell? ⟨w.heap.size, k, Option.none⟩ = some (lv (limb a k))) := hide fun X hX => by rw [cell_of_row X w.heap.size k A4 _ _ (on_blk_mul hX), ← HA.out]; exact lvs_get _ k (limb a k) (qs_get 4 a k hk4)
      have HcB : Hid (∀ X, (blk (w.heap.size + 1) (.cells B4 23 (0, 0)) * (blk w.heap.size (.cells A4 23 (0, 0)) * all w)).on X → X.cell? ⟨w.heap.size + 1, k, Option.none⟩ = some (lv (limb b k))) := hide fun X hX => by rw [cell_of_row X (w.heap.size + 1) k B4 _ _ (on_blk_mul hX), ← HB.out]; exact lvs_get _ k (limb b k) (qs_get 4 b k hk4)
      have HL := hide (lt_limb a b k Heq.out)
      have l1 := limb_lt a k
      have l2 := limb_lt b k
      have s1 : (((k + 1 : Nat) : Int) - 1) = (k : Int) := by omega
      rw [s1]
      clear s1
      generalize limb a k = x at *
      generalize limb b k = y at *
      have hk4' : (k : Int) < 4 := by omega
      by_cases hxy : x = y
      · have he := HL.out.2 hxy
        have He := hide he
        have Hxy := hide hxy
        clear he hxy
        go_wp2_with fail
        refine wp_region_vs [isV (.int .i64 (k : Int)), isV (.pointer (some ⟨w.heap.size, k, Option.none⟩)), isV (lv x), isV (.int .i64 (k : Int)), isV (.pointer (some ⟨w.heap.size + 1, k, Option.none⟩)), isV (lv y), isV (.bool false)]
          (by kernel_rfl) (by kernel_rfl) rfl ?keep ?todo ?rest
        case keep => exact ⟨Keep.isV _, Keep.isV _, Keep.isV _, Keep.isV _, Keep.isV _, Keep.isV _, Keep.isV _, trivial⟩
        case todo =>
          refine ⟨?_, ?_, ?_, ?_, ?_, ?_, ?_, trivial⟩
          · intro ev X hT hb hk hf
            have e0 : ev (.tmp 5) = .int .i64 (k : Int) := hk.1
            exact OpOk.move rfl e0 ⟨rfl, Stay.refl _⟩
          · intro ev X hT hb hk hf
            have e0 : ev (.tmp 2) = .pointer (some ⟨w.heap.size, 0, Option.none⟩) := hk.1
            have e1 : ev (.tmp 10) = .int .i64 (k : Int) := hf.1
            exact OpOk.run (v := .pointer (some ⟨w.heap.size, k, Option.none⟩)) (W' := X) (by simp [execOp, e0, e1, hb.1, hk4', go_sem]; try (intro h; omega)) ⟨rfl, Stay.refl _⟩
          · intro ev X hT hb hk hf
            have e0 : ev (.tmp 11) = .pointer (some ⟨w.heap.size, k, Option.none⟩) := hf.1
            have cW := HcA.out X (HXk.out.below hT).right
            exact OpOk.run (v := lv x) (W' := X) (by simp [execOp, e0, cW, go_sem]) ⟨rfl, Stay.refl _⟩
          · intro ev X hT hb hk hf
            have e0 : ev (.tmp 5) = .int .i64 (k : Int) := hk.1
            exact OpOk.move rfl e0 ⟨rfl, Stay.refl _⟩
          · intro ev X hT hb hk hf
            have e0 : ev (.tmp 3) = .pointer (some ⟨w.heap.size + 1, 0, Option.none⟩) := hk.1
            have e1 : ev (.tmp 13) = .int .i64 (k : Int) := hf.1
            exact OpOk.run (v := .pointer (some ⟨w.heap.size + 1, k, Option.none⟩)) (W' := X) (by simp [execOp, e0, e1, hb.1, hk4', go_sem]; try (intro h; omega)) ⟨rfl, Stay.refl _⟩
          · intro ev X hT hb hk hf
            have e0 : ev (.tmp 14) = .pointer (some ⟨w.heap.size + 1, k, Option.none⟩) := hf.1
            have cW := HcB.out X (HXk.out.below hT)
            exact OpOk.run (v := lv y) (W' := X) (by simp [execOp, e0, cW, go_sem]) ⟨rfl, Stay.refl _⟩
          · intro ev X hT hb hk hf
            have e0 : ev (.tmp 12) = lv x := hf.1
            have e1 : ev (.tmp 15) = lv y := hf.2.1
            exact OpOk.run (v := .bool false) (W' := X) (by have h9 := Hxy.out; have h8 : ((x : Int) = (y : Int)) := (by omega); simp [execOp, e0, e1, h8, go_sem]) ⟨rfl, Stay.refl _⟩
        case rest =>
          intro X hT
          rintro _ - _ - _ - _ - _ - _ - _ rfl
          have HX2 := hide (HXk.out.below hT)
          have HS2 := hide (HSk.out.trans (Str.below hT))
          clear hT
          go_wp2
          refine Rest.done ?_
          go_wp2_with fail
          exact ⟨⟨k, by omega, rfl, He.out, HX2.out, HS2.out⟩, by simp [intOf]⟩
      · have Hd := hide (HL.out.1 hxy)
        have Hxy := hide hxy
        clear hxy
        go_wp2_with fail
        refine wp_region_vs [isV (.int .i64 (k : Int)), isV (.pointer (some ⟨w.heap.size, k, Option.none⟩)), isV (lv x), isV (.int .i64 (k : Int)), isV (.pointer (some ⟨w.heap.size + 1, k, Option.none⟩)), isV (lv y), isV (.bool true)]
          (by kernel_rfl) (by kernel_rfl) rfl ?keep ?todo ?rest
        case keep => exact ⟨Keep.isV _, Keep.isV _, Keep.isV _, Keep.isV _, Keep.isV _, Keep.isV _, Keep.isV _, trivial⟩
        case todo =>
          refine ⟨?_, ?_, ?_, ?_, ?_, ?_, ?_, trivial⟩
          · intro ev X hT hb hk hf
            have e0 : ev (.tmp 5) = .int .i64 (k : Int) := hk.1
            exact OpOk.move rfl e0 ⟨rfl, Stay.refl _⟩
          · intro ev X hT hb hk hf
            have e0 : ev (.tmp 2) = .pointer (some ⟨w.heap.size, 0, Option.none⟩) := hk.1
            have e1 : ev (.tmp 10) = .int .i64 (k : Int) := hf.1
            exact OpOk.run (v := .pointer (some ⟨w.heap.size, k, Option.none⟩)) (W' := X) (by simp [execOp, e0, e1, hb.1, hk4', go_sem]; try (intro h; omega)) ⟨rfl, Stay.refl _⟩
          · intro ev X hT hb hk hf
            have e0 : ev (.tmp 11) = .pointer (some ⟨w.heap.size, k, Option.none⟩) := hf.1
            have cW := HcA.out X (HXk.out.below hT).right
            exact OpOk.run (v := lv x) (W' := X) (by simp [execOp, e0, cW, go_sem]) ⟨rfl, Stay.refl _⟩
          · intro ev X hT hb hk hf
            have e0 : ev (.tmp 5) = .int .i64 (k : Int) := hk.1
            exact OpOk.move rfl e0 ⟨rfl, Stay.refl _⟩
          · intro ev X hT hb hk hf
            have e0 : ev (.tmp 3) = .pointer (some ⟨w.heap.size + 1, 0, Option.none⟩) := hk.1
            have e1 : ev (.tmp 13) = .int .i64 (k : Int) := hf.1
            exact OpOk.run (v := .pointer (some ⟨w.heap.size + 1, k, Option.none⟩)) (W' := X) (by simp [execOp, e0, e1, hb.1, hk4', go_sem]; try (intro h; omega)) ⟨rfl, Stay.refl _⟩
          · intro ev X hT hb hk hf
            have e0 : ev (.tmp 14) = .pointer (some ⟨w.heap.size + 1, k, Option.none⟩) := hf.1
            have cW := HcB.out X (HXk.out.below hT)
            exact OpOk.run (v := lv y) (W' := X) (by simp [execOp, e0, cW, go_sem]) ⟨rfl, Stay.refl _⟩
          · intro ev X hT hb hk hf
            have e0 : ev (.tmp 12) = lv x := hf.1
            have e1 : ev (.tmp 15) = lv y := hf.2.1
            exact OpOk.run (v := .bool true) (W' := X) (by have h9 := Hxy.out; have h8 : ¬((x : Int) = (y : Int)) := (by omega); simp [execOp, e0, e1, h8, go_sem]) ⟨rfl, Stay.refl _⟩
        case rest =>
          intro X hT
          rintro _ - _ - _ - _ - _ - _ - _ rfl
          have HX2 := hide (HXk.out.below hT)
          have HS2 := hide (HSk.out.trans (Str.below hT))
          clear hT
          go_wp2
          refine Rest.done ?_
          go_wp2_with fail
          refine wp_region_vs [isV (.int .i64 (k : Int)), isV (.pointer (some ⟨w.heap.size, k, Option.none⟩)), isV (lv x), isV (.int .i64 (k : Int)), isV (.pointer (some ⟨w.heap.size + 1, k, Option.none⟩)), isV (lv y), isV (.bool (decide (x < y))), isV (.bool (decide (x < y)))]
            (by kernel_rfl) (by kernel_rfl) rfl ?keep ?todo ?rest
          case keep => exact ⟨Keep.isV _, Keep.isV _, Keep.isV _, Keep.isV _, Keep.isV _, Keep.isV _, Keep.isV _, Keep.isV _, trivial⟩
          case todo =>
            refine ⟨?_, ?_, ?_, ?_, ?_, ?_, ?_, ?_, trivial⟩
            · intro ev X hT hb hk hf
              have e0 : ev (.tmp 5) = .int .i64 (k : Int) := hk.1
              exact OpOk.move rfl e0 ⟨rfl, Stay.refl _⟩
            · intro ev X hT hb hk hf
              have e0 : ev (.tmp 2) = .pointer (some ⟨w.heap.size, 0, Option.none⟩) := hk.1
              have e1 : ev (.tmp 17) = .int .i64 (k : Int) := hf.1
              exact OpOk.run (v := .pointer (some ⟨w.heap.size, k, Option.none⟩)) (W' := X) (by simp [execOp, e0, e1, hb.1, hk4', go_sem]; try (intro h; omega)) ⟨rfl, Stay.refl _⟩
            · intro ev X hT hb hk hf
              have e0 : ev (.tmp 18) = .pointer (some ⟨w.heap.size, k, Option.none⟩) := hf.1
              have cW := HcA.out X (HX2.out.below hT).right
              exact OpOk.run (v := lv x) (W' := X) (by simp [execOp, e0, cW, go_sem]) ⟨rfl, Stay.refl _⟩
            · intro ev X hT hb hk hf
              have e0 : ev (.tmp 5) = .int .i64 (k : Int) := hk.1
              exact OpOk.move rfl e0 ⟨rfl, Stay.refl _⟩
            · intro ev X hT hb hk hf
              have e0 : ev (.tmp 3) = .pointer (some ⟨w.heap.size + 1, 0, Option.none⟩) := hk.1
              have e1 : ev (.tmp 20) = .int .i64 (k : Int) := hf.1
              exact OpOk.run (v := .pointer (some ⟨w.heap.size + 1, k, Option.none⟩)) (W' := X) (by simp [execOp, e0, e1, hb.1, hk4', go_sem]; try (intro h; omega)) ⟨rfl, Stay.refl _⟩
            · intro ev X hT hb hk hf
              have e0 : ev (.tmp 21) = .pointer (some ⟨w.heap.size + 1, k, Option.none⟩) := hf.1
              have cW := HcB.out X (HX2.out.below hT)
              exact OpOk.run (v := lv y) (W' := X) (by simp [execOp, e0, cW, go_sem]) ⟨rfl, Stay.refl _⟩
            · intro ev X hT hb hk hf
              have e0 : ev (.tmp 19) = lv x := hf.1
              have e1 : ev (.tmp 22) = lv y := hf.2.1
              exact OpOk.run (v := .bool (decide (x < y))) (W' := X) (by simp [execOp, e0, e1, go_sem]) ⟨rfl, Stay.refl _⟩
            · intro ev X hT hb hk hf
              have e0 : ev (.tmp 23) = .bool (decide (x < y)) := hf.1
              exact OpOk.assign rfl e0 ⟨rfl, Stay.refl _⟩
          case rest =>
            intro X5 hT5
            rintro _ - _ - _ - _ - _ - _ - _ rfl _ rfl
            have HX5 := hide (HX2.out.below hT5)
            have HS5 := hide (HS2.out.trans (Str.below hT5))
            clear hT5
            go_wp2
            refine Rest.done ?_
            go_wp2_with fail
            go_ret
            exact ⟨by rw [← Hd.out]; rfl, all_below HX5.out.right.right HS5.out⟩

set_option maxRecDepth 100000 in
set_option maxHeartbeats 1000000 in
theorem belowL_any (a : Nat) (ha : a < 18446744073709551616 ^ 4) (w : World) :
    Calls Tryd.prog 48 #[.agg (q4 a)] w fun e w' => e = .returned (.bool (decide (a < O6))) ∧ Below w.heap.size w w' := by
  have hu := Tryd.underlying23
  have HL := hide (fun X => rl_any X)
  have HBl := hide (fun X => below_any a O6 ha (by decide) X)
  have HsA : Hid ((Tryd.prog.info? 23).map (·.size) = some (q4 a).size) := hide (by rw [q4_size]; kernel_rfl)
  have GA := hide (heap_alloc_new w (.cells (q4 a) 23))
  have HB := hide ((Below.refl w.heap.size w).alloc (Nat.le_refl _) (.cells (q4 a) 23))
  have lA : w.heap.size < (w.alloc (.cells (q4 a) 23)).heap.size := by simp
  go_enter Tryd.func48, Tryd.ntmps48
  generalize hdd : decide (a < O6) = dd at *
  generalize q4 a = A4 at *
  generalize q4 O6 = L4 at *
  have Hdd := hide hdd
  clear hdd ha
  go_wp2_with fail
  generalize w.alloc (.cells A4 23) = w1 at *
  refine wp_region_vs [isV (.agg A4), isV (.agg L4), isV (.bool dd), isV (.bool dd)]
    (by kernel_rfl) (by kernel_rfl) rfl ?keep ?todo ?rest
  case keep => exact ⟨Keep.isV _, Keep.isV _, Keep.isV _, Keep.isV _, trivial⟩
  case todo =>
    refine ⟨?_, ?_, ?_, ?_, trivial⟩
    · intro ev X hT hb hk hf
      have e0 : ev (.tmp 1) = .pointer (some ⟨w.heap.size, 0, Option.none⟩) := hk.1
      exact OpOk.load_row _ _ rfl _ e0 _ A4 (0, 0) _ ((hT.block _ lA).trans GA.out) hu rfl HsA.out ⟨rfl, Stay.refl _⟩
    · intro ev X hT hb hk hf
      refine OpOk.enters (f := 64) (args := #[]) (W' := X) (by simp [execOp, resolve, invoke, hb.1, hb.2.1, go_sem]) ((HL.out X).mono ?_)
      rintro e _ ⟨rfl, hB⟩
      exact ⟨_, rfl, rfl, hB⟩
    · intro ev X hT hb hk hf
      have e0 : ev (.tmp 3) = .agg A4 := hf.1
      have e1 : ev (.tmp 4) = .agg L4 := hf.2.1
      refine OpOk.enters (f := 68) (args := #[.agg A4, .agg L4]) (W' := X) (by simp [execOp, resolve, invoke, e0, e1, hb.1, hb.2.1, go_sem]) ((HBl.out X).mono ?_)
      rintro e _ ⟨rfl, hB⟩
      exact ⟨_, rfl, rfl, hB⟩
    · intro ev X hT hb hk hf
      have e0 : ev (.tmp 5) = .bool dd := hf.1
      exact OpOk.assign rfl e0 ⟨rfl, Stay.refl _⟩
  case rest =>
    intro X hT
    rintro _ - _ - _ - _ rfl
    have HBX := hide (HB.out.trans (hT.mono HB.out.size))
    clear hT
    go_wp2
    refine Rest.done ?_
    go_wp2_with fail
    go_ret
    exact ⟨rfl, HBX.out⟩
end Go.Proofs.YtgkofpfjbjnhfaaDoor
