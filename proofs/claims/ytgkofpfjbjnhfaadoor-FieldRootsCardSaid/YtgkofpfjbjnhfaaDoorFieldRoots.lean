/- The law FieldRoots: the even root of any number, if it is a square; of squares it is one of the two. -/
import Derived.Test.YtgkofpfjbjnhfaaDoorFe18
import Derived.Test.YtgkofpfjbjnhfaaDoorFreeG
import Derived.Test.YtgkofpfjbjnhfaaDoorCards
import Derived.Test.YtgkofpfjbjnhfaaDoorTie
import Derived.Deep.DeepHandedRow
namespace Go.Proofs.YtgkofpfjbjnhfaaDoor
namespace Fe
open Go.ChangeShapes Go.WideShapes Go.ChangeAt Go.RowKit
set_option linter.unusedVariables false
set_option linter.unusedSimpArgs false

theorem bs2_arm {ops : Array Oper} {rest : List Oper} {o : Oper} {a : Act} {w : World} {Q : Exit → Act → World → Prop} (hw : Region.wanted o (yielded ops a.tmps) = true) (x y : Operand)
    (ho : o.op = .buildSlice 85 2 #[(0, x), (1, y)]) (A B C : Array Value) (hx : a.eval x = .agg A) (hy : a.eval y = .agg B)
    (hb : (Instr.buildSlice 85 2 #[(0, .agg A), (1, .agg B)]).run Tryd.prog w = .ok (.slice (some ⟨w.heap.size, 0, Option.none⟩) 2 2) (w.alloc (.cells C 25)))
    (hk : wpList Tryd.prog ops Q rest (a.put o.dst (.slice (some ⟨w.heap.size, 0, Option.none⟩) 2 2)) (w.alloc (.cells C 25))) : wpList Tryd.prog ops Q (o :: rest) a w := by
  have hr : (execOp a.eval o).run Tryd.prog w = .ok (.value (.slice (some ⟨w.heap.size, 0, Option.none⟩) 2 2)) (w.alloc (.cells C 25)) := by
    unfold execOp
    rw [ho]
    simp only [List.map_toArray, List.map_cons, List.map_nil, hx, hy]
    rw [Sem.run_bind, hb]
    rfl
  exact wpList_step fun _ hK => by
    rw [if_pos hw]
    unfold Oper.wp
    simp only [hr]
    exact hK _ _ hk
theorem of_square (x : Nat) (hx : x < P5) : root2 (x * x % P5) * root2 (x * x % P5) % P5 = x * x % P5 := by
  have hy : x * x % P5 < P5 := Nat.mod_lt _ P5_pos
  refine (root2_iff _ hy).2 ?_
  by_cases h0 : x * x % P5 = 0
  · exact .inl h0
  · exact .inr (by rw [pwr_all _ HF HF_lt]; exact sq_pow x _ rfl h0 hx)
set_option maxRecDepth 100000 in
set_option maxHeartbeats 8000000 in
theorem walk_FieldRoots (w : World) (hL : laidMetH Tryd.prog Rows.fieldRootsRow.laid w) (a : Nat) (ha : a < 18446744073709551616 ^ 4) :
    Calls Tryd.prog 5 #[.agg (q4 a)] w fun e w' => e = .returned (.bool true) ∧ Below w.heap.size w w' := by
  have hT : Tab5 w := tab5_of_laid hL
  clear hL
  have hu := Tryd.underlying25
  have hz4e := eZero
  have hu4 := Tryd.underlying23
  have hz4 := eZero4
  have hun := Tryd.underlying27
  have hzn := nZero
  have h0 := (on_all w).alloc (.cells (q4 (a)) 23)
  have s0 := (Str.refl w).alloc (.cells (q4 (a)) 23)
  try simp only [World.size_alloc] at h0
  have H1 := hide h0
  have S1 := hide s0
  clear h0 s0
  have Hna := hide (fun X => num_any a ha X)
  have hx : a % P5 < P5 := Nat.mod_lt _ P5_pos
  generalize a % P5 = x at *
  have h4 := P5_lt
  have h255 := P5_255lt
  have Hrt := hide (fun X h => root_any x hx X h)
  have hrv := rootV_if x
  have Hsq := hide (fun X => rsquare_any x hx X)
  have hiff := root2_iff x hx
  obtain ⟨e1, e2, e3⟩ := evenR_ok (root2 x) (root2_lt x)
  generalize root2 x * root2 x % P5 = rr at *
  obtain ⟨r, hr⟩ : ∃ r, r = evenR (root2 x) := ⟨_, rfl⟩
  rw [← hr] at hrv e1 e2 e3
  have hy : x * x % P5 < P5 := Nat.mod_lt _ P5_pos
  have hof := of_square x hx
  obtain ⟨f1, f2, f3⟩ := evenR_ok (root2 (x * x % P5)) (root2_lt (x * x % P5))
  have hrv2 := rootV_if (x * x % P5)
  rw [if_pos hof] at hrv2
  rw [hof] at f3
  obtain ⟨s, hs⟩ : ∃ s, s = evenR (root2 (x * x % P5)) := ⟨_, rfl⟩
  rw [← hs] at hrv2 f1 f2 f3
  have Hsx := hide (sq_two s x f1 hx f3)
  have hrt2 := fun X h => root_any (x * x % P5) hy X h
  rw [hrv2] at hrt2
  have Hrt2 := hide hrt2
  have hodr := fun X => odd_any r X
  rw [decide_eq_false (show ¬ r % 2 = 1 by omega)] at hodr
  have Hodr := hide hodr
  have hods := fun X => odd_any s X
  rw [decide_eq_false (show ¬ s % 2 = 1 by omega)] at hods
  have Hods := hide hods
  have hfl := fun X => fromlimbs_any r (by omega) X
  rw [Nat.mod_eq_of_lt e1] at hfl
  have Hfl := hide hfl
  have HP := hide (fun X => rp_any X)
  have hls := fun X => rless_any r P5 (by omega) h255 X
  rw [decide_eq_true e1] at hls
  have Hls := hide hls
  have Hmr := hide (mul_two r r e1 e1)
  have Hmx := hide (mul_two x x hx hx)
  have Hbr := hide (fun X => run_bs2 r r X)
  have Hbx := hide (fun X => run_bs2 x x X)
  have Hng := hide (fun X h => neg_any x hx X h)
  have HE : Hid (∀ n X, n < 18446744073709551616 ^ 4 → (Op.equalIn 10000 25 (.agg (q4 n)) (.agg (q4 n))).run Tryd.prog X = .ok true X) := hide fun n X hn => by
    have := eq_q4 X 9998 25 Tryd.underlying25 n n hn hn
    simpa using this
  have HEx := hide (fun X => HE.out x X (by omega))
  have HE0 := hide (fun X => HE.out 0 X (by decide))
  have HEs := hide (fun X => HE.out s X (by omega))
  have HSX := hide (fun X => eq_q4 X 9998 25 Tryd.underlying25 s x (by omega) (by omega))
  have Hgd : Hid (Tryd.prog.eqGuardType Tryd.prog.depth 25 = false) := hide (by kernel_rfl)
  have Hrv := hide hrv
  have Hiff := hide hiff
  have E3 := hide e3
  have Hlv := hide (fun X h => lives_any X h)
  clear hx h4 h255 hrv hiff e1 e2 e3 hr hy hof f1 f2 f3 hrv2 hs hrt2 hodr hods hfl hls ha HE
  have HsA4 := hide (eInfo4 (a))
  have HoA4 := hide (eOne (a))
  have HzA4 := hide (eSize 0 (a))
  have HsX4 := hide (eInfo (x))
  have HoX4 := hide (eOne (x))
  have HzX4 := hide (eSize 0 (x))
  have HsXn := hide (nInfo (x))
  have HoXn := hide (nOne (x))
  have HzXn := hide (nSize 0 (x))
  have HsR4 := hide (eInfo (r))
  have HoR4 := hide (eOne (r))
  have HzR4 := hide (eSize 0 (r))
  have HsRn := hide (nInfo (r))
  have HoRn := hide (nOne (r))
  have HzRn := hide (nSize 0 (r))
  have HsPn := hide (nInfo (P5))
  have HoPn := hide (nOne (P5))
  have HzPn := hide (nSize 0 (P5))
  have HsY4 := hide (eInfo (x * x % P5))
  have HoY4 := hide (eOne (x * x % P5))
  have HzY4 := hide (eSize 0 (x * x % P5))
  have HsS4 := hide (eInfo (s))
  have HoS4 := hide (eOne (s))
  have HzS4 := hide (eSize 0 (s))
  have HsN4 := hide (eInfo ((P5 - x) % P5))
  have HoN4 := hide (eOne ((P5 - x) % P5))
  have HzN4 := hide (eSize 0 ((P5 - x) % P5))
  generalize hA4 : q4 (a) = A4 at *
  have HA4 := hide hA4
  clear hA4
  generalize hX4 : q4 (x) = X4 at *
  have HX4 := hide hX4
  clear hX4
  generalize hXn : n17 (x) = Xn at *
  have HXn := hide hXn
  clear hXn
  generalize hR4 : q4 (r) = R4 at *
  have HR4 := hide hR4
  clear hR4
  generalize hRn : n17 (r) = Rn at *
  have HRn := hide hRn
  clear hRn
  generalize hPn : n17 (P5) = Pn at *
  have HPn := hide hPn
  clear hPn
  generalize hY4 : q4 (x * x % P5) = Y4 at *
  have HY4 := hide hY4
  clear hY4
  generalize hS4 : q4 (s) = S4 at *
  have HS4 := hide hS4
  clear hS4
  generalize hN4 : q4 ((P5 - x) % P5) = N4 at *
  have HN4 := hide hN4
  clear hN4
  generalize hZ4 : q4 0 = Z4 at *
  have HZ4 := hide hZ4
  clear hZ4
  generalize hZn : n17 0 = Zn at *
  have HZn := hide hZn
  clear hZn
  go_enter Tryd.func5, Tryd.ntmps5
  go_wp2_with fail
  generalize w.alloc (.cells A4 23) = w1 at *
  refine (Hlv.out _ (hT.below (all_below H1.out.right S1.out))).mono ?_
  rintro e w2 ⟨rfl, hB⟩
  have H2 := hide (H1.out.below hB)
  have S2 := hide (S1.out.trans (Str.below hB))
  clear hB H1 S1
  have gA := on_blk_mul H2.out
  go_wp2_with (first
    | (refine wpList_load_row rfl _ _ rfl (w.heap.size) rfl _ A4 _ _ gA hu4 rfl HsA4.out ?_))
  clear gA
  refine (Hna.out _).mono ?_
  rintro e w3 ⟨rfl, hB⟩
  have H3 := hide (H2.out.below hB)
  have S3 := hide (S2.out.trans (Str.below hB))
  clear hB H2 S2
  have h1 := H3.out.alloc (.cells Z4 25)
  have h2 := h1.alloc (.cells Zn 27)
  simp only [World.size_alloc] at h2
  have gA := on_blk_mul h2.right
  have h3 := st1 h2 (cs := X4)
  have gB := on_blk_mul h3
  have h4 := st0 h3 (cs := Xn)
  have H4 := hide h4
  have S4 := hide ((((S3.out.alloc (.cells Z4 25)).alloc (.cells Zn 27)).setRow w3.heap.size X4).setRow (w3.heap.size + 1) Xn)
  have gL := on_blk_mul h4.right
  clear h1 h2 h3 h4
  go_wp2_with (first
    | (refine wpList_store_row rfl _ _ _ rfl (w3.heap.size) X4 rfl rfl _ _ gA HsX4.out HzX4.out HoX4.out ?_)
    | (refine wpList_store_row rfl _ _ _ rfl (w3.heap.size + 1) Xn rfl rfl _ _ gB HsXn.out HzXn.out HoXn.out ?_)
    | (refine wpList_load_row rfl _ _ rfl (w3.heap.size) rfl _ X4 _ _ gL hu rfl HsX4.out ?_))
  generalize (((w3.alloc (.cells Z4 25)).alloc (.cells Zn 27)).setRow w3.heap.size X4).setRow (w3.heap.size + 1) Xn = w4 at *
  generalize w3.heap.size = p5 at *
  clear gA gB gL H3 S3
  have Hbz : Hid (∀ X : World, (Instr.build 25 #[]).run Tryd.prog X = .ok (.agg Z4) X) := hide fun X => by rw [← HZ4.out, qz4]; kernel_rfl
  have HsZ4 : Hid ((Tryd.prog.info? 25).map (·.size) = some Z4.size) := hide (by rw [← HZ4.out]; exact eInfo 0)
  have HoZ4 : Hid (Z4.all (·.oneCell') = true) := hide (by rw [← HZ4.out]; exact eOne 0)
  by_cases hok : rr = x
  · have hrx : r * r % P5 = x := E3.out.trans hok
    have hrv := Hrv.out
    rw [if_pos hok] at hrv
    have hsqv : decide (x = 0 ∨ pwr x HF 256 = 1) = true := decide_eq_true (Hiff.out.1 hok)
    rw [hsqv] at Hsq
    rw [hrv] at Hrt
    have hmr := Hmr.out
    rw [hrx, HX4.out] at hmr
    have Hmr2 := hide hmr
    clear hmr hrx
    clear hok hrv hsqv Hiff Hrv
    refine (Hrt.out _ (hT.below (all_below H4.out.right.right.right S4.out))).mono ?_
    rintro e w5 ⟨rfl, hB⟩
    have H5 := hide (H4.out.below hB)
    have S5 := hide (S4.out.trans (Str.below hB))
    clear hB H4 S4
    have hN := H5.out.alloc (.cells Z4 25)
    have gN := on_blk_mul hN
    have hM := hN.setRow R4
    have gM := on_blk_mul hM
    have H6 := hide hM
    have S6 := hide ((S5.out.alloc (.cells Z4 25)).setRow w5.heap.size R4)
    clear hN hM
    have gX := on_blk_mul H6.out.right
    go_wp2_with (first
      | (refine wpList_store_row rfl _ _ _ rfl (w5.heap.size) R4 rfl rfl _ _ gN HsR4.out HzR4.out HoR4.out ?_)
      | (refine wpList_load_row rfl _ _ rfl (p5 + 1) rfl _ Xn _ _ gX hun rfl HsXn.out ?_))
    clear gX
    generalize (w5.alloc (.cells Z4 25)).setRow w5.heap.size R4 = w6 at *
    clear gN gM H5 S5
    generalize w5.heap.size = p7 at *
    refine (Hsq.out _).mono ?_
    rintro e w7 ⟨rfl, hB⟩
    have H7 := hide (H6.out.below hB)
    have S7 := hide (S6.out.trans (Str.below hB))
    clear hB H6 S6
    have hT0 := hide (hT.below (all_below H7.out.right.right.right.right S7.out))
    go_wp2_with fail
    refine wp_region_vsg [isV (.bool true), isV (.bool true), isV (.agg R4), isV (.bool false), isV (.bool false), isV (.agg R4), isV (.agg Rn), isV (.agg Pn), isV (.bool true), isV (.bool false), isV (.bool false), isV (.bool false), isV (.agg R4), isV (.agg R4), (fun v X => IsEl X v [r, r]), isV (.agg X4), isV (.agg X4), isV (.bool false), isV (.bool false), isV (.bool false), isV (.bool false), isV (.bool true), isV (.bool false), isV (.bool false), isV (undef), isV (undef), isV (undef), isV (.bool false), isV (.bool false)]
      (by kernel_rfl) (by kernel_rfl) rfl ?keep ?todo ?rest
    case keep => exact ⟨Keep.isV _, Keep.isV _, Keep.isV _, Keep.isV _, Keep.isV _, Keep.isV _, Keep.isV _, Keep.isV _, Keep.isV _, Keep.isV _, Keep.isV _, Keep.isV _, Keep.isV _, Keep.isV _, fun _ _ _ h k => IsEl.below h k, Keep.isV _, Keep.isV _, Keep.isV _, Keep.isV _, Keep.isV _, Keep.isV _, Keep.isV _, Keep.isV _, Keep.isV _, Keep.isV _, Keep.isV _, Keep.isV _, Keep.isV _, Keep.isV _, trivial⟩
    case todo =>
      refine ⟨?_, ?_, ?_, ?_, ?_, ?_, ?_, ?_, ?_, ?_, ?_, ?_, ?_, ?_, ?_, ?_, ?_, ?_, ?_, ?_, ?_, ?_, ?_, ?_, ?_, ?_, ?_, ?_, ?_, trivial⟩
      · intro ev X hT hb hk hf
        have e0 : ev (.tmp 6) = .bool true := hk.1
        exact OpOk.move rfl e0 ⟨rfl, Stay.refl _⟩
      · intro ev X hT hb hk hf
        have e0 : ev (.tmp 25) = .bool true := hf.1
        exact OpOk.move rfl e0 ⟨rfl, Stay.refl _⟩
      · intro ev X hT hb hk hf
        refine .inl ⟨true, hf.1, fun _ => ?_, fun h => (h rfl).elim⟩
        have e0 : ev (.tmp 5) = .pointer (some ⟨p7, 0, Option.none⟩) := hk.1
        exact OpOk.load_row _ _ rfl _ e0 _ R4 (0, 0) _ (on_blk_mul (H7.out.below hT)) hu rfl HsR4.out ⟨rfl, Stay.refl _⟩
      · intro ev X hT hb hk hf
        refine .inl ⟨true, hf.2.1, fun _ => ?_, fun h => (h rfl).elim⟩
        have e0 : ev (.tmp 27) = .agg R4 := hf.1
        refine OpOk.enters (f := 24) (args := #[.agg R4]) (W' := X) (by simp [execOp, resolve, invoke, e0, hb.1, hb.2.1, go_sem]) ((Hodr.out X).mono ?_)
        rintro e _ ⟨rfl, hB⟩
        exact ⟨_, rfl, rfl, hB⟩
      · intro ev X hT hb hk hf
        refine .inl ⟨true, hf.2.2.1, fun _ => ?_, fun h => (h rfl).elim⟩
        have e0 : ev (.tmp 28) = .bool false := hf.1
        exact OpOk.move rfl e0 ⟨rfl, Stay.refl _⟩
      · intro ev X hT hb hk hf
        refine .inl ⟨false, hf.1, fun _ => ?_, fun h => (h rfl).elim⟩
        have e0 : ev (.tmp 5) = .pointer (some ⟨p7, 0, Option.none⟩) := hk.1
        exact OpOk.load_row _ _ rfl _ e0 _ R4 (0, 0) _ (on_blk_mul (H7.out.below hT)) hu rfl HsR4.out ⟨rfl, Stay.refl _⟩
      · intro ev X hT hb hk hf
        refine .inl ⟨false, hf.2.1, fun _ => ?_, fun h => (h rfl).elim⟩
        have e0 : ev (.tmp 30) = .agg R4 := hf.1
        refine OpOk.enters (f := 32) (args := #[.agg R4]) (W' := X) (by simp [execOp, resolve, invoke, e0, hb.1, hb.2.1, go_sem]) ((Hfl.out X).mono ?_)
        rintro e _ ⟨rfl, hB⟩
        exact ⟨_, rfl, rfl, hB⟩
      · intro ev X hT hb hk hf
        refine .inl ⟨false, hf.2.1, fun _ => ?_, fun h => (h rfl).elim⟩
        refine OpOk.enters (f := 33) (args := #[]) (W' := X) (by simp [execOp, resolve, invoke, hb.1, hb.2.1, go_sem]) ((HP.out X).mono ?_)
        rintro e _ ⟨rfl, hB⟩
        exact ⟨_, rfl, rfl, hB⟩
      · intro ev X hT hb hk hf
        refine .inl ⟨false, hf.2.2.2.1, fun _ => ?_, fun h => (h rfl).elim⟩
        have e0 : ev (.tmp 31) = .agg Rn := hf.1
        have e1 : ev (.tmp 32) = .agg Pn := hf.2.1
        refine OpOk.enters (f := 31) (args := #[.agg Rn, .agg Pn]) (W' := X) (by simp [execOp, resolve, invoke, e0, e1, hb.1, hb.2.1, go_sem]) ((Hls.out X).mono ?_)
        rintro e _ ⟨rfl, hB⟩
        exact ⟨_, rfl, rfl, hB⟩
      · intro ev X hT hb hk hf
        refine .inl ⟨false, hf.2.1, fun _ => ?_, fun h => (h rfl).elim⟩
        have e0 : ev (.tmp 33) = .bool true := hf.1
        exact OpOk.run (v := .bool false) (W' := X) (by simp [execOp, e0, hb.1, go_sem]) ⟨rfl, Stay.refl _⟩
      · intro ev X hT hb hk hf
        refine .inl ⟨true, hf.2.2.1, fun _ => ?_, fun h => (h rfl).elim⟩
        have e0 : ev (.tmp 29) = .bool false := hf.1
        have e1 : ev (.tmp 34) = .bool false := hf.2.1
        exact OpOk.run (v := .bool false) (W' := X) (by simp [execOp, e0, e1, hb, hb.1, hb.2.1, hb.2.2, go_sem]) ⟨rfl, Stay.refl _⟩
      · intro ev X hT hb hk hf
        refine .inl ⟨true, hf.2.2.1, fun _ => ?_, fun h => (h rfl).elim⟩
        have e0 : ev (.tmp 35) = .bool false := hf.1
        exact OpOk.move rfl e0 ⟨rfl, Stay.refl _⟩
      · intro ev X hT hb hk hf
        refine .inl ⟨false, hf.1, fun _ => ?_, fun h => (h rfl).elim⟩
        have e0 : ev (.tmp 5) = .pointer (some ⟨p7, 0, Option.none⟩) := hk.1
        exact OpOk.load_row _ _ rfl _ e0 _ R4 (0, 0) _ (on_blk_mul (H7.out.below hT)) hu rfl HsR4.out ⟨rfl, Stay.refl _⟩
      · intro ev X hT hb hk hf
        refine .inl ⟨false, hf.1, fun _ => ?_, fun h => (h rfl).elim⟩
        have e0 : ev (.tmp 5) = .pointer (some ⟨p7, 0, Option.none⟩) := hk.1
        exact OpOk.load_row _ _ rfl _ e0 _ R4 (0, 0) _ (on_blk_mul (H7.out.below hT)) hu rfl HsR4.out ⟨rfl, Stay.refl _⟩
      · intro ev X hT hb hk hf
        refine .inl ⟨false, hf.2.2.1, fun _ => ?_, fun h => (h rfl).elim⟩
        have e0 : ev (.tmp 37) = .agg R4 := hf.1
        have e1 : ev (.tmp 38) = .agg R4 := hf.2.1
        exact OpOk.run (v := .slice (some ⟨X.heap.size, 0, Option.none⟩) 2 2) (W' := X.alloc (.cells #[lv (limb r 0), lv (limb r 1), lv (limb r 2), lv (limb r 3), lv (limb r 0), lv (limb r 1), lv (limb r 2), lv (limb r 3)] 25)) (by simp [execOp, e0, e1, Hbr.out X]) ⟨IsEl.two (heap_alloc_new X _), (Below.refl X.heap.size X).alloc (Nat.le_refl _) _⟩
      · intro ev X hT hb hk hf
        refine .inl ⟨false, hf.2.1, fun _ => ?_, fun h => (h rfl).elim⟩
        have e0 := hf.1
        refine OpOk.enters (f := 20) (args := #[ev (.tmp 39)]) (W' := X) (by simp [execOp, resolve, invoke, hb.1, hb.2.1, go_sem]) ((Hmr2.out _ X e0 (hT0.out.below hT)).mono ?_)
        rintro e _ ⟨rfl, hB⟩
        exact ⟨_, rfl, rfl, hB⟩
      · intro ev X hT hb hk hf
        refine .inl ⟨false, hf.1, fun _ => ?_, fun h => (h rfl).elim⟩
        have e0 : ev (.tmp 3) = .pointer (some ⟨p5, 0, Option.none⟩) := hk.1
        exact OpOk.load_row _ _ rfl _ e0 _ X4 (0, 0) _ (on_blk_mul (H7.out.below hT).right.right) hu rfl HsX4.out ⟨rfl, Stay.refl _⟩
      · intro ev X hT hb hk hf
        refine .inl ⟨false, hf.2.2.1, fun _ => ?_, fun h => (h rfl).elim⟩
        have e0 : ev (.tmp 40) = .agg X4 := hf.1
        have e1 : ev (.tmp 41) = .agg X4 := hf.2.1
        exact OpOk.run (v := .bool false) (W' := X) (by
          unfold execOp
          simp only [e0, e1, Sem.run_bind, run_eqGuard_agg X _ _ _ _ _ _ Hgd.out, run_neq_struct, HEx.out X, Result.andThen_ok]
          rfl) ⟨rfl, Stay.refl _⟩
      · intro ev X hT hb hk hf
        refine .inl ⟨true, hf.2.2.1, fun _ => ?_, fun h => (h rfl).elim⟩
        have e0 : ev (.tmp 36) = .bool false := hf.1
        have e1 : ev (.tmp 42) = .bool false := hf.2.1
        exact OpOk.run (v := .bool false) (W' := X) (by simp [execOp, e0, e1, hb, hb.1, hb.2.1, hb.2.2, go_sem]) ⟨rfl, Stay.refl _⟩
      · intro ev X hT hb hk hf
        have e0 : ev (.tmp 26) = .bool true := hf.1
        have e1 : ev (.tmp 43) = .bool false := hf.2.1
        exact OpOk.run (v := .bool false) (W' := X) (by simp [execOp, e0, e1, hb, hb.1, hb.2.1, hb.2.2, go_sem]) ⟨rfl, Stay.refl _⟩
      · intro ev X hT hb hk hf
        have e0 : ev (.tmp 44) = .bool false := hf.1
        exact OpOk.move rfl e0 ⟨rfl, Stay.refl _⟩
      · intro ev X hT hb hk hf
        refine .inl ⟨false, hf.1, fun _ => ?_, fun h => (h rfl).elim⟩
        have e0 : ev (.tmp 6) = .bool true := hk.1
        exact OpOk.move rfl e0 ⟨rfl, Stay.refl _⟩
      · intro ev X hT hb hk hf
        refine .inl ⟨false, hf.2.1, fun _ => ?_, fun h => (h rfl).elim⟩
        have e0 : ev (.tmp 46) = .bool true := hf.1
        exact OpOk.run (v := .bool false) (W' := X) (by simp [execOp, e0, hb.1, go_sem]) ⟨rfl, Stay.refl _⟩
      · intro ev X hT hb hk hf
        refine .inl ⟨false, hf.2.1, fun _ => ?_, fun h => (h rfl).elim⟩
        have e0 : ev (.tmp 47) = .bool false := hf.1
        exact OpOk.move rfl e0 ⟨rfl, Stay.refl _⟩
      · exact fun ev X hT hb hk hf => .inl ⟨false, hf.1, fun h => (nomatch h), fun _ => rfl⟩
      · exact fun ev X hT hb hk hf => .inl ⟨false, hf.1, fun h => (nomatch h), fun _ => rfl⟩
      · exact fun ev X hT hb hk hf => .inl ⟨false, hf.2.2.1, fun h => (nomatch h), fun _ => rfl⟩
      · intro ev X hT hb hk hf
        refine .inl ⟨false, hf.2.2.1, fun _ => ?_, fun h => (h rfl).elim⟩
        have e0 : ev (.tmp 48) = .bool false := hf.1
        have e1 : ev (.tmp 51) = undef := hf.2.1
        exact OpOk.run (v := .bool false) (W' := X) (by simp [execOp, e0, e1, hb, hb.1, hb.2.1, hb.2.2, go_sem]) ⟨rfl, Stay.refl _⟩
      · intro ev X hT hb hk hf
        have e0 : ev (.tmp 45) = .bool false := hf.1
        have e1 : ev (.tmp 52) = .bool false := hf.2.1
        exact OpOk.run (v := .bool false) (W' := X) (by simp [execOp, e0, e1, hb, hb.1, hb.2.1, hb.2.2, go_sem]) ⟨rfl, Stay.refl _⟩
    case rest =>
      intro w8 hX
      rintro _ - _ - _ - _ - _ - _ - _ - _ - _ - _ - _ - _ - _ - _ - _ - _ - _ - _ - _ - _ - _ - _ - _ - _ - _ - _ - _ - _ - _ rfl
      have H8 := hide (H7.out.below hX)
      have S8 := hide (S7.out.trans (Str.below hX))
      clear hX H7 S7
      go_wp2
      refine Rest.done ?_
      clear hT0
      have g0 := on_blk_mul H8.out.right.right
      have h9 := H8.out.alloc (.cells #[lv (limb x 0), lv (limb x 1), lv (limb x 2), lv (limb x 3), lv (limb x 0), lv (limb x 1), lv (limb x 2), lv (limb x 3)] 25)
      have H9 := hide h9
      have S9 := hide (S8.out.alloc (.cells #[lv (limb x 0), lv (limb x 1), lv (limb x 2), lv (limb x 3), lv (limb x 0), lv (limb x 1), lv (limb x 2), lv (limb x 3)] 25))
      have hIS := IsEl.two (heap_alloc_new w8 (.cells #[lv (limb x 0), lv (limb x 1), lv (limb x 2), lv (limb x 3), lv (limb x 0), lv (limb x 1), lv (limb x 2), lv (limb x 3)] 25))
      clear h9
      go_wp2_with (first
        | (refine wpList_load_row rfl _ _ rfl (p5) rfl _ X4 _ _ g0 hu rfl HsX4.out ?_)
        | (refine bs2_arm rfl _ _ rfl X4 X4 #[lv (limb x 0), lv (limb x 1), lv (limb x 2), lv (limb x 3), lv (limb x 0), lv (limb x 1), lv (limb x 2), lv (limb x 3)] rfl rfl (Hbx.out _) ?_))
      generalize w8.alloc (.cells #[lv (limb x 0), lv (limb x 1), lv (limb x 2), lv (limb x 3), lv (limb x 0), lv (limb x 1), lv (limb x 2), lv (limb x 3)] 25) = w9 at *
      generalize hp9 : w8.heap.size = p9 at *
      clear g0 hp9 H8 S8
      refine (Hmx.out _ _ hIS (hT.below (all_below H9.out.right.right.right.right.right S9.out))).mono ?_
      rintro e w10 ⟨rfl, hB⟩
      have H10 := hide (H9.out.below hB)
      have S10 := hide (S9.out.trans (Str.below hB))
      clear hB H9 S9
      go_wp2_with fail
      refine (Hrt2.out _ (hT.below (all_below H10.out.right.right.right.right.right S10.out))).mono ?_
      rintro e w11 ⟨rfl, hB⟩
      have H11 := hide (H10.out.below hB)
      have S11 := hide (S10.out.trans (Str.below hB))
      clear hB H10 S10
      have hN := H11.out.alloc (.cells Z4 25)
      have gN := on_blk_mul hN
      have hM := hN.setRow S4
      have gM := on_blk_mul hM
      have H12 := hide hM
      have S12 := hide ((S11.out.alloc (.cells Z4 25)).setRow w11.heap.size S4)
      clear hN hM
      go_wp2_with (first
        | (refine wpList_store_row rfl _ _ _ rfl (w11.heap.size) S4 rfl rfl _ _ gN HsS4.out HzS4.out HoS4.out ?_))
      generalize (w11.alloc (.cells Z4 25)).setRow w11.heap.size S4 = w12 at *
      clear gN gM H11 S11
      generalize w11.heap.size = p10 at *
      clear hIS
      by_cases hsx : s = x
      · have hq := HSX.out
        simp only [hsx, decide_true] at hq
        have HQ := hide hq
        clear hq hsx
        go_wp2_with fail
        refine wp_region_vsg [isV (.bool true), isV (.bool true), isV (.agg S4), isV (.bool false), isV (.bool true), isV (.bool true), isV (.bool true), isV (.agg S4), isV (.agg X4), isV (.bool true), isV (.bool true), isV (undef), isV (undef), isV (undef), isV (undef), isV (.bool true), isV (.bool true), isV (.bool true)]
          (by kernel_rfl) (by kernel_rfl) rfl ?keep ?todo ?rest
        case keep => exact ⟨Keep.isV _, Keep.isV _, Keep.isV _, Keep.isV _, Keep.isV _, Keep.isV _, Keep.isV _, Keep.isV _, Keep.isV _, Keep.isV _, Keep.isV _, Keep.isV _, Keep.isV _, Keep.isV _, Keep.isV _, Keep.isV _, Keep.isV _, Keep.isV _, trivial⟩
        case todo =>
          refine ⟨?_, ?_, ?_, ?_, ?_, ?_, ?_, ?_, ?_, ?_, ?_, ?_, ?_, ?_, ?_, ?_, ?_, ?_, trivial⟩
          · intro ev X hT hb hk hf
            have e0 : ev (.tmp 8) = .bool true := hk.1
            exact OpOk.move rfl e0 ⟨rfl, Stay.refl _⟩
          · intro ev X hT hb hk hf
            have e0 : ev (.tmp 62) = .bool true := hf.1
            exact OpOk.move rfl e0 ⟨rfl, Stay.refl _⟩
          · intro ev X hT hb hk hf
            refine .inl ⟨true, hf.1, fun _ => ?_, fun h => (h rfl).elim⟩
            have e0 : ev (.tmp 7) = .pointer (some ⟨p10, 0, Option.none⟩) := hk.1
            exact OpOk.load_row _ _ rfl _ e0 _ S4 (0, 0) _ (on_blk_mul (H12.out.below hT)) hu rfl HsS4.out ⟨rfl, Stay.refl _⟩
          · intro ev X hT hb hk hf
            refine .inl ⟨true, hf.2.1, fun _ => ?_, fun h => (h rfl).elim⟩
            have e0 : ev (.tmp 64) = .agg S4 := hf.1
            refine OpOk.enters (f := 24) (args := #[.agg S4]) (W' := X) (by simp [execOp, resolve, invoke, e0, hb.1, hb.2.1, go_sem]) ((Hods.out X).mono ?_)
            rintro e _ ⟨rfl, hB⟩
            exact ⟨_, rfl, rfl, hB⟩
          · intro ev X hT hb hk hf
            refine .inl ⟨true, hf.2.1, fun _ => ?_, fun h => (h rfl).elim⟩
            have e0 : ev (.tmp 65) = .bool false := hf.1
            exact OpOk.run (v := .bool true) (W' := X) (by simp [execOp, e0, hb.1, go_sem]) ⟨rfl, Stay.refl _⟩
          · intro ev X hT hb hk hf
            have e0 : ev (.tmp 63) = .bool true := hf.1
            have e1 : ev (.tmp 66) = .bool true := hf.2.1
            exact OpOk.run (v := .bool true) (W' := X) (by simp [execOp, e0, e1, hb, hb.1, hb.2.1, hb.2.2, go_sem]) ⟨rfl, Stay.refl _⟩
          · intro ev X hT hb hk hf
            have e0 : ev (.tmp 67) = .bool true := hf.1
            exact OpOk.move rfl e0 ⟨rfl, Stay.refl _⟩
          · intro ev X hT hb hk hf
            refine .inl ⟨true, hf.1, fun _ => ?_, fun h => (h rfl).elim⟩
            have e0 : ev (.tmp 7) = .pointer (some ⟨p10, 0, Option.none⟩) := hk.1
            exact OpOk.load_row _ _ rfl _ e0 _ S4 (0, 0) _ (on_blk_mul (H12.out.below hT)) hu rfl HsS4.out ⟨rfl, Stay.refl _⟩
          · intro ev X hT hb hk hf
            refine .inl ⟨true, hf.1, fun _ => ?_, fun h => (h rfl).elim⟩
            have e0 : ev (.tmp 3) = .pointer (some ⟨p5, 0, Option.none⟩) := hk.1
            exact OpOk.load_row _ _ rfl _ e0 _ X4 (0, 0) _ (on_blk_mul (H12.out.below hT).right.right.right.right) hu rfl HsX4.out ⟨rfl, Stay.refl _⟩
          · intro ev X hT hb hk hf
            refine .inl ⟨true, hf.2.2.1, fun _ => ?_, fun h => (h rfl).elim⟩
            have e0 : ev (.tmp 69) = .agg S4 := hf.1
            have e1 : ev (.tmp 70) = .agg X4 := hf.2.1
            exact OpOk.run (v := .bool true) (W' := X) (by
              unfold execOp
              simp only [e0, e1, Sem.run_bind, run_eqGuard_agg X _ _ _ _ _ _ Hgd.out, run_eql_struct, HQ.out X, Result.andThen_ok]
              rfl) ⟨rfl, Stay.refl _⟩
          · intro ev X hT hb hk hf
            refine .inl ⟨true, hf.2.1, fun _ => ?_, fun h => (h rfl).elim⟩
            have e0 : ev (.tmp 71) = .bool true := hf.1
            exact OpOk.move rfl e0 ⟨rfl, Stay.refl _⟩
          · exact fun ev X hT hb hk hf => .inl ⟨true, hf.1, fun h => (nomatch h), fun _ => rfl⟩
          · exact fun ev X hT hb hk hf => .inl ⟨true, hf.1, fun h => (nomatch h), fun _ => rfl⟩
          · exact fun ev X hT hb hk hf => .inl ⟨true, hf.2.1, fun h => (nomatch h), fun _ => rfl⟩
          · exact fun ev X hT hb hk hf => .inl ⟨true, hf.2.2.1, fun h => (nomatch h), fun _ => rfl⟩
          · intro ev X hT hb hk hf
            refine .inl ⟨true, hf.2.2.1, fun _ => ?_, fun h => (h rfl).elim⟩
            have e0 : ev (.tmp 72) = .bool true := hf.1
            have e1 : ev (.tmp 76) = undef := hf.2.1
            exact OpOk.run (v := .bool true) (W' := X) (by simp [execOp, e0, e1, hb, hb.1, hb.2.1, hb.2.2, go_sem]) ⟨rfl, Stay.refl _⟩
          · intro ev X hT hb hk hf
            have e0 : ev (.tmp 68) = .bool true := hf.1
            have e1 : ev (.tmp 77) = .bool true := hf.2.1
            exact OpOk.run (v := .bool true) (W' := X) (by simp [execOp, e0, e1, hb, hb.1, hb.2.1, hb.2.2, go_sem]) ⟨rfl, Stay.refl _⟩
          · intro ev X hT hb hk hf
            have e0 : ev (.tmp 78) = .bool true := hf.1
            exact OpOk.assign rfl e0 ⟨rfl, Stay.refl _⟩
        case rest =>
          intro X9 hX
          rintro _ - _ - _ - _ - _ - _ - _ - _ - _ - _ - _ - _ - _ - _ - _ - _ - _ - _ rfl
          have HB := hide (all_below (H12.out.below hX).right.right.right.right.right.right (S12.out.trans (Str.below hX)))
          clear hX
          go_wp2
          refine Rest.done ?_
          go_wp2_with fail
          go_ret
          exact ⟨rfl, HB.out⟩
      · have hq := HSX.out
        simp only [hsx, decide_false] at hq
        have HQ := hide hq
        have hns : N4 = S4 := by rw [← HN4.out, ← HS4.out]; exact congrArg (fun n => q4 n) (Hsx.out.resolve_left hsx).symm
        have Hng2 := hide (fun X h => hns ▸ Hng.out X h)
        clear hq hsx hns
        have hT0 := hide (hT.below (all_below H12.out.right.right.right.right.right.right S12.out))
        go_wp2_with fail
        refine wp_region_vsg [isV (.bool true), isV (.bool true), isV (.agg S4), isV (.bool false), isV (.bool true), isV (.bool true), isV (.bool true), isV (.agg S4), isV (.agg X4), isV (.bool false), isV (.bool false), isV (.agg S4), isV (.agg X4), isV (.agg S4), isV (.bool true), isV (.bool true), isV (.bool true), isV (.bool true)]
          (by kernel_rfl) (by kernel_rfl) rfl ?keep ?todo ?rest
        case keep => exact ⟨Keep.isV _, Keep.isV _, Keep.isV _, Keep.isV _, Keep.isV _, Keep.isV _, Keep.isV _, Keep.isV _, Keep.isV _, Keep.isV _, Keep.isV _, Keep.isV _, Keep.isV _, Keep.isV _, Keep.isV _, Keep.isV _, Keep.isV _, Keep.isV _, trivial⟩
        case todo =>
          refine ⟨?_, ?_, ?_, ?_, ?_, ?_, ?_, ?_, ?_, ?_, ?_, ?_, ?_, ?_, ?_, ?_, ?_, ?_, trivial⟩
          · intro ev X hT hb hk hf
            have e0 : ev (.tmp 8) = .bool true := hk.1
            exact OpOk.move rfl e0 ⟨rfl, Stay.refl _⟩
          · intro ev X hT hb hk hf
            have e0 : ev (.tmp 62) = .bool true := hf.1
            exact OpOk.move rfl e0 ⟨rfl, Stay.refl _⟩
          · intro ev X hT hb hk hf
            refine .inl ⟨true, hf.1, fun _ => ?_, fun h => (h rfl).elim⟩
            have e0 : ev (.tmp 7) = .pointer (some ⟨p10, 0, Option.none⟩) := hk.1
            exact OpOk.load_row _ _ rfl _ e0 _ S4 (0, 0) _ (on_blk_mul (H12.out.below hT)) hu rfl HsS4.out ⟨rfl, Stay.refl _⟩
          · intro ev X hT hb hk hf
            refine .inl ⟨true, hf.2.1, fun _ => ?_, fun h => (h rfl).elim⟩
            have e0 : ev (.tmp 64) = .agg S4 := hf.1
            refine OpOk.enters (f := 24) (args := #[.agg S4]) (W' := X) (by simp [execOp, resolve, invoke, e0, hb.1, hb.2.1, go_sem]) ((Hods.out X).mono ?_)
            rintro e _ ⟨rfl, hB⟩
            exact ⟨_, rfl, rfl, hB⟩
          · intro ev X hT hb hk hf
            refine .inl ⟨true, hf.2.1, fun _ => ?_, fun h => (h rfl).elim⟩
            have e0 : ev (.tmp 65) = .bool false := hf.1
            exact OpOk.run (v := .bool true) (W' := X) (by simp [execOp, e0, hb.1, go_sem]) ⟨rfl, Stay.refl _⟩
          · intro ev X hT hb hk hf
            have e0 : ev (.tmp 63) = .bool true := hf.1
            have e1 : ev (.tmp 66) = .bool true := hf.2.1
            exact OpOk.run (v := .bool true) (W' := X) (by simp [execOp, e0, e1, hb, hb.1, hb.2.1, hb.2.2, go_sem]) ⟨rfl, Stay.refl _⟩
          · intro ev X hT hb hk hf
            have e0 : ev (.tmp 67) = .bool true := hf.1
            exact OpOk.move rfl e0 ⟨rfl, Stay.refl _⟩
          · intro ev X hT hb hk hf
            refine .inl ⟨true, hf.1, fun _ => ?_, fun h => (h rfl).elim⟩
            have e0 : ev (.tmp 7) = .pointer (some ⟨p10, 0, Option.none⟩) := hk.1
            exact OpOk.load_row _ _ rfl _ e0 _ S4 (0, 0) _ (on_blk_mul (H12.out.below hT)) hu rfl HsS4.out ⟨rfl, Stay.refl _⟩
          · intro ev X hT hb hk hf
            refine .inl ⟨true, hf.1, fun _ => ?_, fun h => (h rfl).elim⟩
            have e0 : ev (.tmp 3) = .pointer (some ⟨p5, 0, Option.none⟩) := hk.1
            exact OpOk.load_row _ _ rfl _ e0 _ X4 (0, 0) _ (on_blk_mul (H12.out.below hT).right.right.right.right) hu rfl HsX4.out ⟨rfl, Stay.refl _⟩
          · intro ev X hT hb hk hf
            refine .inl ⟨true, hf.2.2.1, fun _ => ?_, fun h => (h rfl).elim⟩
            have e0 : ev (.tmp 69) = .agg S4 := hf.1
            have e1 : ev (.tmp 70) = .agg X4 := hf.2.1
            exact OpOk.run (v := .bool false) (W' := X) (by
              unfold execOp
              simp only [e0, e1, Sem.run_bind, run_eqGuard_agg X _ _ _ _ _ _ Hgd.out, run_eql_struct, HQ.out X, Result.andThen_ok]
              rfl) ⟨rfl, Stay.refl _⟩
          · intro ev X hT hb hk hf
            refine .inl ⟨true, hf.2.1, fun _ => ?_, fun h => (h rfl).elim⟩
            have e0 : ev (.tmp 71) = .bool false := hf.1
            exact OpOk.move rfl e0 ⟨rfl, Stay.refl _⟩
          · intro ev X hT hb hk hf
            refine .inl ⟨false, hf.1, fun _ => ?_, fun h => (h rfl).elim⟩
            have e0 : ev (.tmp 7) = .pointer (some ⟨p10, 0, Option.none⟩) := hk.1
            exact OpOk.load_row _ _ rfl _ e0 _ S4 (0, 0) _ (on_blk_mul (H12.out.below hT)) hu rfl HsS4.out ⟨rfl, Stay.refl _⟩
          · intro ev X hT hb hk hf
            refine .inl ⟨false, hf.1, fun _ => ?_, fun h => (h rfl).elim⟩
            have e0 : ev (.tmp 3) = .pointer (some ⟨p5, 0, Option.none⟩) := hk.1
            exact OpOk.load_row _ _ rfl _ e0 _ X4 (0, 0) _ (on_blk_mul (H12.out.below hT).right.right.right.right) hu rfl HsX4.out ⟨rfl, Stay.refl _⟩
          · intro ev X hT hb hk hf
            refine .inl ⟨false, hf.2.1, fun _ => ?_, fun h => (h rfl).elim⟩
            have e0 : ev (.tmp 74) = .agg X4 := hf.1
            refine OpOk.enters (f := 21) (args := #[.agg X4]) (W' := X) (by simp [execOp, resolve, invoke, e0, hb.1, hb.2.1, go_sem]) ((Hng2.out X (hT0.out.below hT)).mono ?_)
            rintro e _ ⟨rfl, hB⟩
            exact ⟨_, rfl, rfl, hB⟩
          · intro ev X hT hb hk hf
            refine .inl ⟨false, hf.2.2.1, fun _ => ?_, fun h => (h rfl).elim⟩
            have e0 : ev (.tmp 73) = .agg S4 := hf.1
            have e1 : ev (.tmp 75) = .agg S4 := hf.2.1
            exact OpOk.run (v := .bool true) (W' := X) (by
              unfold execOp
              simp only [e0, e1, Sem.run_bind, run_eqGuard_agg X _ _ _ _ _ _ Hgd.out, run_eql_struct, HEs.out X, Result.andThen_ok]
              rfl) ⟨rfl, Stay.refl _⟩
          · intro ev X hT hb hk hf
            refine .inl ⟨true, hf.2.2.1, fun _ => ?_, fun h => (h rfl).elim⟩
            have e0 : ev (.tmp 72) = .bool false := hf.1
            have e1 : ev (.tmp 76) = .bool true := hf.2.1
            exact OpOk.run (v := .bool true) (W' := X) (by simp [execOp, e0, e1, hb, hb.1, hb.2.1, hb.2.2, go_sem]) ⟨rfl, Stay.refl _⟩
          · intro ev X hT hb hk hf
            have e0 : ev (.tmp 68) = .bool true := hf.1
            have e1 : ev (.tmp 77) = .bool true := hf.2.1
            exact OpOk.run (v := .bool true) (W' := X) (by simp [execOp, e0, e1, hb, hb.1, hb.2.1, hb.2.2, go_sem]) ⟨rfl, Stay.refl _⟩
          · intro ev X hT hb hk hf
            have e0 : ev (.tmp 78) = .bool true := hf.1
            exact OpOk.assign rfl e0 ⟨rfl, Stay.refl _⟩
        case rest =>
          intro X9 hX
          rintro _ - _ - _ - _ - _ - _ - _ - _ - _ - _ - _ - _ - _ - _ - _ - _ - _ - _ rfl
          have HB := hide (all_below (H12.out.below hX).right.right.right.right.right.right (S12.out.trans (Str.below hX)))
          clear hX
          go_wp2
          refine Rest.done ?_
          go_wp2_with fail
          go_ret
          exact ⟨rfl, HB.out⟩
  · have hrv := Hrv.out
    rw [if_neg hok] at hrv
    have hsqv : decide (x = 0 ∨ pwr x HF 256 = 1) = false := decide_eq_false fun h => hok (Hiff.out.2 h)
    rw [hsqv] at Hsq
    rw [hrv] at Hrt
    clear hok hrv hsqv Hiff Hrv
    refine (Hrt.out _ (hT.below (all_below H4.out.right.right.right S4.out))).mono ?_
    rintro e w5 ⟨rfl, hB⟩
    have H5 := hide (H4.out.below hB)
    have S5 := hide (S4.out.trans (Str.below hB))
    clear hB H4 S4
    have hN := H5.out.alloc (.cells Z4 25)
    have gN := on_blk_mul hN
    have hM := hN.setRow Z4
    have gM := on_blk_mul hM
    have H6 := hide hM
    have S6 := hide ((S5.out.alloc (.cells Z4 25)).setRow w5.heap.size Z4)
    clear hN hM
    have gX := on_blk_mul H6.out.right
    go_wp2_with (first
      | (refine wpList_store_row rfl _ _ _ rfl (w5.heap.size) Z4 rfl rfl _ _ gN HsZ4.out rfl HoZ4.out ?_)
      | (refine wpList_load_row rfl _ _ rfl (p5 + 1) rfl _ Xn _ _ gX hun rfl HsXn.out ?_))
    clear gX
    generalize (w5.alloc (.cells Z4 25)).setRow w5.heap.size Z4 = w6 at *
    clear gN gM H5 S5
    generalize w5.heap.size = p7 at *
    refine (Hsq.out _).mono ?_
    rintro e w7 ⟨rfl, hB⟩
    have H7 := hide (H6.out.below hB)
    have S7 := hide (S6.out.trans (Str.below hB))
    clear hB H6 S6
    have hT0 := hide (hT.below (all_below H7.out.right.right.right.right S7.out))
    go_wp2_with fail
    refine wp_region_vsg [isV (.bool false), isV (.bool false), isV (undef), isV (undef), isV (undef), isV (undef), isV (undef), isV (undef), isV (undef), isV (undef), isV (undef), isV (undef), isV (undef), isV (undef), isV (undef), isV (undef), isV (undef), isV (undef), isV (undef), isV (.bool false), isV (.bool false), isV (.bool false), isV (.bool true), isV (.bool true), isV (.agg Z4), isV (.agg Z4), isV (.bool false), isV (.bool false), isV (.bool false)]
      (by kernel_rfl) (by kernel_rfl) rfl ?keep ?todo ?rest
    case keep => exact ⟨Keep.isV _, Keep.isV _, Keep.isV _, Keep.isV _, Keep.isV _, Keep.isV _, Keep.isV _, Keep.isV _, Keep.isV _, Keep.isV _, Keep.isV _, Keep.isV _, Keep.isV _, Keep.isV _, Keep.isV _, Keep.isV _, Keep.isV _, Keep.isV _, Keep.isV _, Keep.isV _, Keep.isV _, Keep.isV _, Keep.isV _, Keep.isV _, Keep.isV _, Keep.isV _, Keep.isV _, Keep.isV _, Keep.isV _, trivial⟩
    case todo =>
      refine ⟨?_, ?_, ?_, ?_, ?_, ?_, ?_, ?_, ?_, ?_, ?_, ?_, ?_, ?_, ?_, ?_, ?_, ?_, ?_, ?_, ?_, ?_, ?_, ?_, ?_, ?_, ?_, ?_, ?_, trivial⟩
      · intro ev X hT hb hk hf
        have e0 : ev (.tmp 6) = .bool false := hk.1
        exact OpOk.move rfl e0 ⟨rfl, Stay.refl _⟩
      · intro ev X hT hb hk hf
        have e0 : ev (.tmp 25) = .bool false := hf.1
        exact OpOk.move rfl e0 ⟨rfl, Stay.refl _⟩
      · exact fun ev X hT hb hk hf => .inl ⟨false, hf.1, fun h => (nomatch h), fun _ => rfl⟩
      · exact fun ev X hT hb hk hf => .inl ⟨false, hf.2.1, fun h => (nomatch h), fun _ => rfl⟩
      · exact fun ev X hT hb hk hf => .inl ⟨false, hf.2.2.1, fun h => (nomatch h), fun _ => rfl⟩
      · exact fun ev X hT hb hk hf => .inr ⟨hf.1, rfl⟩
      · exact fun ev X hT hb hk hf => .inr ⟨hf.2.1, rfl⟩
      · exact fun ev X hT hb hk hf => .inr ⟨hf.2.1, rfl⟩
      · exact fun ev X hT hb hk hf => .inr ⟨hf.2.2.2.1, rfl⟩
      · exact fun ev X hT hb hk hf => .inr ⟨hf.2.1, rfl⟩
      · exact fun ev X hT hb hk hf => .inl ⟨false, hf.2.2.1, fun h => (nomatch h), fun _ => rfl⟩
      · exact fun ev X hT hb hk hf => .inl ⟨false, hf.2.2.1, fun h => (nomatch h), fun _ => rfl⟩
      · exact fun ev X hT hb hk hf => .inr ⟨hf.1, rfl⟩
      · exact fun ev X hT hb hk hf => .inr ⟨hf.1, rfl⟩
      · exact fun ev X hT hb hk hf => .inr ⟨hf.2.2.1, rfl⟩
      · exact fun ev X hT hb hk hf => .inr ⟨hf.2.1, rfl⟩
      · exact fun ev X hT hb hk hf => .inr ⟨hf.1, rfl⟩
      · exact fun ev X hT hb hk hf => .inr ⟨hf.2.2.1, rfl⟩
      · exact fun ev X hT hb hk hf => .inl ⟨false, hf.2.2.1, fun h => (nomatch h), fun _ => rfl⟩
      · intro ev X hT hb hk hf
        have e0 : ev (.tmp 26) = .bool false := hf.1
        have e1 : ev (.tmp 43) = undef := hf.2.1
        exact OpOk.run (v := .bool false) (W' := X) (by simp [execOp, e0, e1, hb, hb.1, hb.2.1, hb.2.2, go_sem]) ⟨rfl, Stay.refl _⟩
      · intro ev X hT hb hk hf
        have e0 : ev (.tmp 44) = .bool false := hf.1
        exact OpOk.move rfl e0 ⟨rfl, Stay.refl _⟩
      · intro ev X hT hb hk hf
        refine .inl ⟨false, hf.1, fun _ => ?_, fun h => (h rfl).elim⟩
        have e0 : ev (.tmp 6) = .bool false := hk.1
        exact OpOk.move rfl e0 ⟨rfl, Stay.refl _⟩
      · intro ev X hT hb hk hf
        refine .inl ⟨false, hf.2.1, fun _ => ?_, fun h => (h rfl).elim⟩
        have e0 : ev (.tmp 46) = .bool false := hf.1
        exact OpOk.run (v := .bool true) (W' := X) (by simp [execOp, e0, hb.1, go_sem]) ⟨rfl, Stay.refl _⟩
      · intro ev X hT hb hk hf
        refine .inl ⟨false, hf.2.1, fun _ => ?_, fun h => (h rfl).elim⟩
        have e0 : ev (.tmp 47) = .bool true := hf.1
        exact OpOk.move rfl e0 ⟨rfl, Stay.refl _⟩
      · intro ev X hT hb hk hf
        refine .inl ⟨true, hf.1, fun _ => ?_, fun h => (h rfl).elim⟩
        have e0 : ev (.tmp 5) = .pointer (some ⟨p7, 0, Option.none⟩) := hk.1
        exact OpOk.load_row _ _ rfl _ e0 _ Z4 (0, 0) _ (on_blk_mul (H7.out.below hT)) hu rfl HsZ4.out ⟨rfl, Stay.refl _⟩
      · intro ev X hT hb hk hf
        refine .inl ⟨true, hf.1, fun _ => ?_, fun h => (h rfl).elim⟩
        exact OpOk.run (v := .agg Z4) (W' := X) (by simp [execOp, Hbz.out X]) ⟨rfl, Stay.refl _⟩
      · intro ev X hT hb hk hf
        refine .inl ⟨true, hf.2.2.1, fun _ => ?_, fun h => (h rfl).elim⟩
        have e0 : ev (.tmp 49) = .agg Z4 := hf.1
        have e1 : ev (.tmp 50) = .agg Z4 := hf.2.1
        exact OpOk.run (v := .bool false) (W' := X) (by
          unfold execOp
          simp only [e0, e1, Sem.run_bind, run_eqGuard_agg X _ _ _ _ _ _ Hgd.out, run_neq_struct, HE0.out X, Result.andThen_ok]
          rfl) ⟨rfl, Stay.refl _⟩
      · intro ev X hT hb hk hf
        refine .inl ⟨false, hf.2.2.1, fun _ => ?_, fun h => (h rfl).elim⟩
        have e0 : ev (.tmp 48) = .bool true := hf.1
        have e1 : ev (.tmp 51) = .bool false := hf.2.1
        exact OpOk.run (v := .bool false) (W' := X) (by simp [execOp, e0, e1, hb, hb.1, hb.2.1, hb.2.2, go_sem]) ⟨rfl, Stay.refl _⟩
      · intro ev X hT hb hk hf
        have e0 : ev (.tmp 45) = .bool false := hf.1
        have e1 : ev (.tmp 52) = .bool false := hf.2.1
        exact OpOk.run (v := .bool false) (W' := X) (by simp [execOp, e0, e1, hb, hb.1, hb.2.1, hb.2.2, go_sem]) ⟨rfl, Stay.refl _⟩
    case rest =>
      intro w8 hX
      rintro _ - _ - _ - _ - _ - _ - _ - _ - _ - _ - _ - _ - _ - _ - _ - _ - _ - _ - _ - _ - _ - _ - _ - _ - _ - _ - _ - _ - _ rfl
      have H8 := hide (H7.out.below hX)
      have S8 := hide (S7.out.trans (Str.below hX))
      clear hX H7 S7
      go_wp2
      refine Rest.done ?_
      clear hT0
      have g0 := on_blk_mul H8.out.right.right
      have h9 := H8.out.alloc (.cells #[lv (limb x 0), lv (limb x 1), lv (limb x 2), lv (limb x 3), lv (limb x 0), lv (limb x 1), lv (limb x 2), lv (limb x 3)] 25)
      have H9 := hide h9
      have S9 := hide (S8.out.alloc (.cells #[lv (limb x 0), lv (limb x 1), lv (limb x 2), lv (limb x 3), lv (limb x 0), lv (limb x 1), lv (limb x 2), lv (limb x 3)] 25))
      have hIS := IsEl.two (heap_alloc_new w8 (.cells #[lv (limb x 0), lv (limb x 1), lv (limb x 2), lv (limb x 3), lv (limb x 0), lv (limb x 1), lv (limb x 2), lv (limb x 3)] 25))
      clear h9
      go_wp2_with (first
        | (refine wpList_load_row rfl _ _ rfl (p5) rfl _ X4 _ _ g0 hu rfl HsX4.out ?_)
        | (refine bs2_arm rfl _ _ rfl X4 X4 #[lv (limb x 0), lv (limb x 1), lv (limb x 2), lv (limb x 3), lv (limb x 0), lv (limb x 1), lv (limb x 2), lv (limb x 3)] rfl rfl (Hbx.out _) ?_))
      generalize w8.alloc (.cells #[lv (limb x 0), lv (limb x 1), lv (limb x 2), lv (limb x 3), lv (limb x 0), lv (limb x 1), lv (limb x 2), lv (limb x 3)] 25) = w9 at *
      generalize hp9 : w8.heap.size = p9 at *
      clear g0 hp9 H8 S8
      refine (Hmx.out _ _ hIS (hT.below (all_below H9.out.right.right.right.right.right S9.out))).mono ?_
      rintro e w10 ⟨rfl, hB⟩
      have H10 := hide (H9.out.below hB)
      have S10 := hide (S9.out.trans (Str.below hB))
      clear hB H9 S9
      go_wp2_with fail
      refine (Hrt2.out _ (hT.below (all_below H10.out.right.right.right.right.right S10.out))).mono ?_
      rintro e w11 ⟨rfl, hB⟩
      have H11 := hide (H10.out.below hB)
      have S11 := hide (S10.out.trans (Str.below hB))
      clear hB H10 S10
      have hN := H11.out.alloc (.cells Z4 25)
      have gN := on_blk_mul hN
      have hM := hN.setRow S4
      have gM := on_blk_mul hM
      have H12 := hide hM
      have S12 := hide ((S11.out.alloc (.cells Z4 25)).setRow w11.heap.size S4)
      clear hN hM
      go_wp2_with (first
        | (refine wpList_store_row rfl _ _ _ rfl (w11.heap.size) S4 rfl rfl _ _ gN HsS4.out HzS4.out HoS4.out ?_))
      generalize (w11.alloc (.cells Z4 25)).setRow w11.heap.size S4 = w12 at *
      clear gN gM H11 S11
      generalize w11.heap.size = p10 at *
      clear hIS
      by_cases hsx : s = x
      · have hq := HSX.out
        simp only [hsx, decide_true] at hq
        have HQ := hide hq
        clear hq hsx
        go_wp2_with fail
        refine wp_region_vsg [isV (.bool true), isV (.bool true), isV (.agg S4), isV (.bool false), isV (.bool true), isV (.bool true), isV (.bool true), isV (.agg S4), isV (.agg X4), isV (.bool true), isV (.bool true), isV (undef), isV (undef), isV (undef), isV (undef), isV (.bool true), isV (.bool true), isV (.bool true)]
          (by kernel_rfl) (by kernel_rfl) rfl ?keep ?todo ?rest
        case keep => exact ⟨Keep.isV _, Keep.isV _, Keep.isV _, Keep.isV _, Keep.isV _, Keep.isV _, Keep.isV _, Keep.isV _, Keep.isV _, Keep.isV _, Keep.isV _, Keep.isV _, Keep.isV _, Keep.isV _, Keep.isV _, Keep.isV _, Keep.isV _, Keep.isV _, trivial⟩
        case todo =>
          refine ⟨?_, ?_, ?_, ?_, ?_, ?_, ?_, ?_, ?_, ?_, ?_, ?_, ?_, ?_, ?_, ?_, ?_, ?_, trivial⟩
          · intro ev X hT hb hk hf
            have e0 : ev (.tmp 8) = .bool true := hk.1
            exact OpOk.move rfl e0 ⟨rfl, Stay.refl _⟩
          · intro ev X hT hb hk hf
            have e0 : ev (.tmp 62) = .bool true := hf.1
            exact OpOk.move rfl e0 ⟨rfl, Stay.refl _⟩
          · intro ev X hT hb hk hf
            refine .inl ⟨true, hf.1, fun _ => ?_, fun h => (h rfl).elim⟩
            have e0 : ev (.tmp 7) = .pointer (some ⟨p10, 0, Option.none⟩) := hk.1
            exact OpOk.load_row _ _ rfl _ e0 _ S4 (0, 0) _ (on_blk_mul (H12.out.below hT)) hu rfl HsS4.out ⟨rfl, Stay.refl _⟩
          · intro ev X hT hb hk hf
            refine .inl ⟨true, hf.2.1, fun _ => ?_, fun h => (h rfl).elim⟩
            have e0 : ev (.tmp 64) = .agg S4 := hf.1
            refine OpOk.enters (f := 24) (args := #[.agg S4]) (W' := X) (by simp [execOp, resolve, invoke, e0, hb.1, hb.2.1, go_sem]) ((Hods.out X).mono ?_)
            rintro e _ ⟨rfl, hB⟩
            exact ⟨_, rfl, rfl, hB⟩
          · intro ev X hT hb hk hf
            refine .inl ⟨true, hf.2.1, fun _ => ?_, fun h => (h rfl).elim⟩
            have e0 : ev (.tmp 65) = .bool false := hf.1
            exact OpOk.run (v := .bool true) (W' := X) (by simp [execOp, e0, hb.1, go_sem]) ⟨rfl, Stay.refl _⟩
          · intro ev X hT hb hk hf
            have e0 : ev (.tmp 63) = .bool true := hf.1
            have e1 : ev (.tmp 66) = .bool true := hf.2.1
            exact OpOk.run (v := .bool true) (W' := X) (by simp [execOp, e0, e1, hb, hb.1, hb.2.1, hb.2.2, go_sem]) ⟨rfl, Stay.refl _⟩
          · intro ev X hT hb hk hf
            have e0 : ev (.tmp 67) = .bool true := hf.1
            exact OpOk.move rfl e0 ⟨rfl, Stay.refl _⟩
          · intro ev X hT hb hk hf
            refine .inl ⟨true, hf.1, fun _ => ?_, fun h => (h rfl).elim⟩
            have e0 : ev (.tmp 7) = .pointer (some ⟨p10, 0, Option.none⟩) := hk.1
            exact OpOk.load_row _ _ rfl _ e0 _ S4 (0, 0) _ (on_blk_mul (H12.out.below hT)) hu rfl HsS4.out ⟨rfl, Stay.refl _⟩
          · intro ev X hT hb hk hf
            refine .inl ⟨true, hf.1, fun _ => ?_, fun h => (h rfl).elim⟩
            have e0 : ev (.tmp 3) = .pointer (some ⟨p5, 0, Option.none⟩) := hk.1
            exact OpOk.load_row _ _ rfl _ e0 _ X4 (0, 0) _ (on_blk_mul (H12.out.below hT).right.right.right.right) hu rfl HsX4.out ⟨rfl, Stay.refl _⟩
          · intro ev X hT hb hk hf
            refine .inl ⟨true, hf.2.2.1, fun _ => ?_, fun h => (h rfl).elim⟩
            have e0 : ev (.tmp 69) = .agg S4 := hf.1
            have e1 : ev (.tmp 70) = .agg X4 := hf.2.1
            exact OpOk.run (v := .bool true) (W' := X) (by
              unfold execOp
              simp only [e0, e1, Sem.run_bind, run_eqGuard_agg X _ _ _ _ _ _ Hgd.out, run_eql_struct, HQ.out X, Result.andThen_ok]
              rfl) ⟨rfl, Stay.refl _⟩
          · intro ev X hT hb hk hf
            refine .inl ⟨true, hf.2.1, fun _ => ?_, fun h => (h rfl).elim⟩
            have e0 : ev (.tmp 71) = .bool true := hf.1
            exact OpOk.move rfl e0 ⟨rfl, Stay.refl _⟩
          · exact fun ev X hT hb hk hf => .inl ⟨true, hf.1, fun h => (nomatch h), fun _ => rfl⟩
          · exact fun ev X hT hb hk hf => .inl ⟨true, hf.1, fun h => (nomatch h), fun _ => rfl⟩
          · exact fun ev X hT hb hk hf => .inl ⟨true, hf.2.1, fun h => (nomatch h), fun _ => rfl⟩
          · exact fun ev X hT hb hk hf => .inl ⟨true, hf.2.2.1, fun h => (nomatch h), fun _ => rfl⟩
          · intro ev X hT hb hk hf
            refine .inl ⟨true, hf.2.2.1, fun _ => ?_, fun h => (h rfl).elim⟩
            have e0 : ev (.tmp 72) = .bool true := hf.1
            have e1 : ev (.tmp 76) = undef := hf.2.1
            exact OpOk.run (v := .bool true) (W' := X) (by simp [execOp, e0, e1, hb, hb.1, hb.2.1, hb.2.2, go_sem]) ⟨rfl, Stay.refl _⟩
          · intro ev X hT hb hk hf
            have e0 : ev (.tmp 68) = .bool true := hf.1
            have e1 : ev (.tmp 77) = .bool true := hf.2.1
            exact OpOk.run (v := .bool true) (W' := X) (by simp [execOp, e0, e1, hb, hb.1, hb.2.1, hb.2.2, go_sem]) ⟨rfl, Stay.refl _⟩
          · intro ev X hT hb hk hf
            have e0 : ev (.tmp 78) = .bool true := hf.1
            exact OpOk.assign rfl e0 ⟨rfl, Stay.refl _⟩
        case rest =>
          intro X9 hX
          rintro _ - _ - _ - _ - _ - _ - _ - _ - _ - _ - _ - _ - _ - _ - _ - _ - _ - _ rfl
          have HB := hide (all_below (H12.out.below hX).right.right.right.right.right.right (S12.out.trans (Str.below hX)))
          clear hX
          go_wp2
          refine Rest.done ?_
          go_wp2_with fail
          go_ret
          exact ⟨rfl, HB.out⟩
      · have hq := HSX.out
        simp only [hsx, decide_false] at hq
        have HQ := hide hq
        have hns : N4 = S4 := by rw [← HN4.out, ← HS4.out]; exact congrArg (fun n => q4 n) (Hsx.out.resolve_left hsx).symm
        have Hng2 := hide (fun X h => hns ▸ Hng.out X h)
        clear hq hsx hns
        have hT0 := hide (hT.below (all_below H12.out.right.right.right.right.right.right S12.out))
        go_wp2_with fail
        refine wp_region_vsg [isV (.bool true), isV (.bool true), isV (.agg S4), isV (.bool false), isV (.bool true), isV (.bool true), isV (.bool true), isV (.agg S4), isV (.agg X4), isV (.bool false), isV (.bool false), isV (.agg S4), isV (.agg X4), isV (.agg S4), isV (.bool true), isV (.bool true), isV (.bool true), isV (.bool true)]
          (by kernel_rfl) (by kernel_rfl) rfl ?keep ?todo ?rest
        case keep => exact ⟨Keep.isV _, Keep.isV _, Keep.isV _, Keep.isV _, Keep.isV _, Keep.isV _, Keep.isV _, Keep.isV _, Keep.isV _, Keep.isV _, Keep.isV _, Keep.isV _, Keep.isV _, Keep.isV _, Keep.isV _, Keep.isV _, Keep.isV _, Keep.isV _, trivial⟩
        case todo =>
          refine ⟨?_, ?_, ?_, ?_, ?_, ?_, ?_, ?_, ?_, ?_, ?_, ?_, ?_, ?_, ?_, ?_, ?_, ?_, trivial⟩
          · intro ev X hT hb hk hf
            have e0 : ev (.tmp 8) = .bool true := hk.1
            exact OpOk.move rfl e0 ⟨rfl, Stay.refl _⟩
          · intro ev X hT hb hk hf
            have e0 : ev (.tmp 62) = .bool true := hf.1
            exact OpOk.move rfl e0 ⟨rfl, Stay.refl _⟩
          · intro ev X hT hb hk hf
            refine .inl ⟨true, hf.1, fun _ => ?_, fun h => (h rfl).elim⟩
            have e0 : ev (.tmp 7) = .pointer (some ⟨p10, 0, Option.none⟩) := hk.1
            exact OpOk.load_row _ _ rfl _ e0 _ S4 (0, 0) _ (on_blk_mul (H12.out.below hT)) hu rfl HsS4.out ⟨rfl, Stay.refl _⟩
          · intro ev X hT hb hk hf
            refine .inl ⟨true, hf.2.1, fun _ => ?_, fun h => (h rfl).elim⟩
            have e0 : ev (.tmp 64) = .agg S4 := hf.1
            refine OpOk.enters (f := 24) (args := #[.agg S4]) (W' := X) (by simp [execOp, resolve, invoke, e0, hb.1, hb.2.1, go_sem]) ((Hods.out X).mono ?_)
            rintro e _ ⟨rfl, hB⟩
            exact ⟨_, rfl, rfl, hB⟩
          · intro ev X hT hb hk hf
            refine .inl ⟨true, hf.2.1, fun _ => ?_, fun h => (h rfl).elim⟩
            have e0 : ev (.tmp 65) = .bool false := hf.1
            exact OpOk.run (v := .bool true) (W' := X) (by simp [execOp, e0, hb.1, go_sem]) ⟨rfl, Stay.refl _⟩
          · intro ev X hT hb hk hf
            have e0 : ev (.tmp 63) = .bool true := hf.1
            have e1 : ev (.tmp 66) = .bool true := hf.2.1
            exact OpOk.run (v := .bool true) (W' := X) (by simp [execOp, e0, e1, hb, hb.1, hb.2.1, hb.2.2, go_sem]) ⟨rfl, Stay.refl _⟩
          · intro ev X hT hb hk hf
            have e0 : ev (.tmp 67) = .bool true := hf.1
            exact OpOk.move rfl e0 ⟨rfl, Stay.refl _⟩
          · intro ev X hT hb hk hf
            refine .inl ⟨true, hf.1, fun _ => ?_, fun h => (h rfl).elim⟩
            have e0 : ev (.tmp 7) = .pointer (some ⟨p10, 0, Option.none⟩) := hk.1
            exact OpOk.load_row _ _ rfl _ e0 _ S4 (0, 0) _ (on_blk_mul (H12.out.below hT)) hu rfl HsS4.out ⟨rfl, Stay.refl _⟩
          · intro ev X hT hb hk hf
            refine .inl ⟨true, hf.1, fun _ => ?_, fun h => (h rfl).elim⟩
            have e0 : ev (.tmp 3) = .pointer (some ⟨p5, 0, Option.none⟩) := hk.1
            exact OpOk.load_row _ _ rfl _ e0 _ X4 (0, 0) _ (on_blk_mul (H12.out.below hT).right.right.right.right) hu rfl HsX4.out ⟨rfl, Stay.refl _⟩
          · intro ev X hT hb hk hf
            refine .inl ⟨true, hf.2.2.1, fun _ => ?_, fun h => (h rfl).elim⟩
            have e0 : ev (.tmp 69) = .agg S4 := hf.1
            have e1 : ev (.tmp 70) = .agg X4 := hf.2.1
            exact OpOk.run (v := .bool false) (W' := X) (by
              unfold execOp
              simp only [e0, e1, Sem.run_bind, run_eqGuard_agg X _ _ _ _ _ _ Hgd.out, run_eql_struct, HQ.out X, Result.andThen_ok]
              rfl) ⟨rfl, Stay.refl _⟩
          · intro ev X hT hb hk hf
            refine .inl ⟨true, hf.2.1, fun _ => ?_, fun h => (h rfl).elim⟩
            have e0 : ev (.tmp 71) = .bool false := hf.1
            exact OpOk.move rfl e0 ⟨rfl, Stay.refl _⟩
          · intro ev X hT hb hk hf
            refine .inl ⟨false, hf.1, fun _ => ?_, fun h => (h rfl).elim⟩
            have e0 : ev (.tmp 7) = .pointer (some ⟨p10, 0, Option.none⟩) := hk.1
            exact OpOk.load_row _ _ rfl _ e0 _ S4 (0, 0) _ (on_blk_mul (H12.out.below hT)) hu rfl HsS4.out ⟨rfl, Stay.refl _⟩
          · intro ev X hT hb hk hf
            refine .inl ⟨false, hf.1, fun _ => ?_, fun h => (h rfl).elim⟩
            have e0 : ev (.tmp 3) = .pointer (some ⟨p5, 0, Option.none⟩) := hk.1
            exact OpOk.load_row _ _ rfl _ e0 _ X4 (0, 0) _ (on_blk_mul (H12.out.below hT).right.right.right.right) hu rfl HsX4.out ⟨rfl, Stay.refl _⟩
          · intro ev X hT hb hk hf
            refine .inl ⟨false, hf.2.1, fun _ => ?_, fun h => (h rfl).elim⟩
            have e0 : ev (.tmp 74) = .agg X4 := hf.1
            refine OpOk.enters (f := 21) (args := #[.agg X4]) (W' := X) (by simp [execOp, resolve, invoke, e0, hb.1, hb.2.1, go_sem]) ((Hng2.out X (hT0.out.below hT)).mono ?_)
            rintro e _ ⟨rfl, hB⟩
            exact ⟨_, rfl, rfl, hB⟩
          · intro ev X hT hb hk hf
            refine .inl ⟨false, hf.2.2.1, fun _ => ?_, fun h => (h rfl).elim⟩
            have e0 : ev (.tmp 73) = .agg S4 := hf.1
            have e1 : ev (.tmp 75) = .agg S4 := hf.2.1
            exact OpOk.run (v := .bool true) (W' := X) (by
              unfold execOp
              simp only [e0, e1, Sem.run_bind, run_eqGuard_agg X _ _ _ _ _ _ Hgd.out, run_eql_struct, HEs.out X, Result.andThen_ok]
              rfl) ⟨rfl, Stay.refl _⟩
          · intro ev X hT hb hk hf
            refine .inl ⟨true, hf.2.2.1, fun _ => ?_, fun h => (h rfl).elim⟩
            have e0 : ev (.tmp 72) = .bool false := hf.1
            have e1 : ev (.tmp 76) = .bool true := hf.2.1
            exact OpOk.run (v := .bool true) (W' := X) (by simp [execOp, e0, e1, hb, hb.1, hb.2.1, hb.2.2, go_sem]) ⟨rfl, Stay.refl _⟩
          · intro ev X hT hb hk hf
            have e0 : ev (.tmp 68) = .bool true := hf.1
            have e1 : ev (.tmp 77) = .bool true := hf.2.1
            exact OpOk.run (v := .bool true) (W' := X) (by simp [execOp, e0, e1, hb, hb.1, hb.2.1, hb.2.2, go_sem]) ⟨rfl, Stay.refl _⟩
          · intro ev X hT hb hk hf
            have e0 : ev (.tmp 78) = .bool true := hf.1
            exact OpOk.assign rfl e0 ⟨rfl, Stay.refl _⟩
        case rest =>
          intro X9 hX
          rintro _ - _ - _ - _ - _ - _ - _ - _ - _ - _ - _ - _ - _ - _ - _ - _ - _ - _ rfl
          have HB := hide (all_below (H12.out.below hX).right.right.right.right.right.right (S12.out.trans (Str.below hX)))
          clear hX
          go_wp2
          refine Rest.done ?_
          go_wp2_with fail
          go_ret
          exact ⟨rfl, HB.out⟩
end Fe
open Go.ChangeShapes Go.WideShapes Go.ChangeAt Go.RowKit
theorem walk_FieldRoots (w : World) (hL : laidMetH Tryd.prog Rows.fieldRootsRow.laid w) (a : Nat) (ha : a < 18446744073709551616 ^ 4) :
    Calls Tryd.prog 5 #[.agg (q4 a)] w fun e w' => e = .returned (.bool true) ∧ Below w.heap.size w w' := Fe.walk_FieldRoots w hL a ha
namespace lawFieldRoots
theorem own : ownKnob Tryd.prog.godebug = Option.none := by kernel_rfl
theorem laidOut : laidOutB Tryd.prog = true := by kernel_rfl

set_option maxRecDepth 100000 in
theorem contract (H : Type) (enc : TypeId × Value → H) (W : World) (base : Nat) (args : Array Value) (ds gs : List (DataW H)) (before : List MemPlace)
    (hval0 : ∀ (j : Nat) t v, Tryd.f5.params[j]? = some t → args[j]? = some v → Value.okWide Tryd.prog W .any base t v)
    (hW : DataW.Whole enc Tryd.prog Tryd.f5.params.toList Rows.fieldRootsSpec.vars false W args.toList ds gs before) (hsz : (DataW.weightsEach Tryd.prog (Tryd.f5.params.toList ++ (OpenSpec.ofChange Rows.fieldRootsSpec).bare.plain.varTypes Tryd.prog) (ds ++ gs)).all (· ≤ reachBytes) = true) (hL : laidMetH Tryd.prog Rows.fieldRootsRow.laid W) :
    Calls Tryd.prog 5 args W fun e W' => ∃ v, e = .returned v ∧ Rows.fieldRootsSpec.post enc Tryd.prog Tryd.f5 false true false false W args v W' := by
  have hval : ∀ (j : Nat) t v, Tryd.f5.params[j]? = some t → args[j]? = some v → Value.okWide Tryd.prog W .any base t v := hval0
  have hW' := hW
  obtain ⟨p, q, hA0, hV, rfl, hfz, hnd⟩ := hW
  have hA : DataW.TrodAll enc Tryd.prog W 0 (fun _ => true) true Tryd.f5.params.toList args.toList ds p := hA0
  rw [Tryd.params5] at hA hval
  obtain ⟨v0, vs0, d0, ds0, p0, q0, hargs, rfl, rfl, h0, r0⟩ := trodAll_cons hA
  obtain ⟨rfl, rfl, rfl⟩ := trodAll_nil r0
  obtain rfl : args = #[v0] := by cases args; simp_all
  obtain ⟨rfl, rfl⟩ := trodVars_none hV
  have k0 := h0
  have lt0 : ∀ x ∈ p0, x.block < W.heap.size := by obtain ⟨m, hm⟩ := k0; exact DataW.trod_lt m _ _ _ hm
  obtain ⟨s0, rfl, b0⟩ := open_limbs (hval 0 23 v0 rfl rfl) h0
  clear hA0 hval0 hsz
  refine (walk_FieldRoots W hL s0 b0).mono fun e W' ⟨he, bel⟩ => ?_
  subst he
  exact ⟨_, rfl, _, _, _, [], _, [], hW', trodAll_mk1 (shut_bool Tryd.underlying4 _), (trodAll_cons_mk (Below.trod laidOut (by kernel_rfl) (of_decide_eq_true (by kernel_rfl)) k0 bel lt0) trodAll_mk0), rfl, bel.frame _, fun h => by cases h⟩

/-- a world for the witness: the settled one, the listed variables holding what their initialisers lay -/
def litCells (d : DataW Unit) : Array Value := match d with
  | .agg l => (l.filterMap fun x => match x with | .lit (.int k n) => some (Value.int k n) | _ => Option.none).toArray
  | _ => #[]
noncomputable def laidWorld (os : Os) : World :=
  { World.holding Tryd.prog os ⟨#[], #[], []⟩ with heap := ((((World.holding Tryd.prog os ⟨#[], #[], []⟩).heap.modify 0 fun
      | .cells _ t frozen => .cells (litCells Rows.laid_bosun_field_modulus) t frozen
      | o => o).modify 2 fun
      | .cells _ t frozen => .cells (litCells Rows.laid_bosun_field_eighth) t frozen
      | o => o).modify 3 fun
      | .cells _ t frozen => .cells (litCells Rows.laid_bosun_field_rootOfMinusOne) t frozen
      | o => o) }
theorem laid_met (os : Os) : laidMet Tryd.prog Rows.fieldRootsRow.laid ((laidWorld os).forCall (fun _ _ => 0) ⟨#[], #[.agg #[.int .u64 0, .int .u64 0, .int .u64 0, .int .u64 0]], []⟩).memory :=
  laidMet_of_run' 8 (by kernel_rfl) (by kernel_rfl)
theorem reads (os : Os) {H : Type} (enc : TypeId × Value → H) : ∃ places, DataW.whole enc Tryd.prog ((laidWorld os).forCall (fun _ _ => 0) ⟨#[], #[.agg #[.int .u64 0, .int .u64 0, .int .u64 0, .int .u64 0]], []⟩).memory Tryd.f5.params.toList Rows.fieldRootsSpec.vars false (#[.agg #[.int .u64 0, .int .u64 0, .int .u64 0, .int .u64 0]] : Array Value).toList 8 = some ([.agg (List.replicate 4 (.lit (.int .u64 0)))], [], places) :=
  ⟨[], by kernel_rfl⟩

set_option maxRecDepth 100000 in
theorem lifted (os : Os) (started : os.Started) (H : Type) (enc : TypeId × Value → H) (F : Stop.Interp) :
    ReturnsInHanded {} Tryd.checked os 5 .any ((OpenSpec.ofChange Rows.fieldRootsSpec).preRow enc Tryd.prog Tryd.f5 Rows.fieldRootsRow.domain false Rows.fieldRootsRow.laid) (((OpenSpec.ofChange Rows.fieldRootsSpec).at F).post enc Tryd.prog Tryd.f5 false true false false) := by
  obtain ⟨places, hx⟩ := reads os enc
  refine returnsInHanded_of_row (C := Tryd.checked) (s := OpenSpec.ofChange Rows.fieldRootsSpec) own started (by kernel_rfl) Tryd.func5
    (witness_row_at (enc := enc) (C := Tryd.checked) false (laidWorld os) #[.agg #[.int .u64 0, .int .u64 0, .int .u64 0, .int .u64 0]] rfl (by kernel_rfl) (by kernel_rfl) (by kernel_rfl)
      (OpenSpec.preRow_of_cond 8 hx (by kernel_rfl) (fun k hk => by cases hk) (by kernel_rfl) (laid_met os))) ?_
  intro W base args ds gs before hval hW _ _ hsz hL _ _
  exact contract H enc W base args ds gs before hval hW hsz hL

theorem said : Rows.FieldRootsSaid :=
  OpenClaim.holds_of_cond 5 Tryd.f5 rfl rfl rfl rfl rfl rfl rfl ⟨rfl, rfl, rfl, rfl, rfl⟩ rfl rfl rfl rfl rfl (by kernel_rfl) Tryd.func5 (by kernel_rfl)
    (of_decide_eq_true (by kernel_rfl)) (by unfold Func.isWrapper; first | (rw [if_pos (by decide +kernel)]; kernel_rfl) | (rw [if_neg (by decide +kernel)]; exact ⟨rfl, rfl⟩))
    (fun os started H enc _ F => by rw [OpenClaim.pre_eq_preRow]; exact lifted os started H enc F)

theorem plain (f : FuncId) (fn : Func) (hf : Tryd.pinned.checked.prog.funcNamed "bosun/bosunlaw05.FieldRoots" = some f) (hfn : Tryd.pinned.checked.prog.funcs[f]? = some fn) :
    false = Tryd.pinned.checked.prog.looks [] ∧ ∀ (j : Nat) t, fn.params[j]? = some t → Tryd.pinned.checked.prog.wantsStandIn t = false := by
  obtain rfl : f = 5 := Option.some.inj ((show Tryd.prog.funcNamed "bosun/bosunlaw05.FieldRoots" = some 5 by kernel_rfl).symm.trans hf) |>.symm
  obtain rfl : fn = Tryd.f5 := (Option.some.inj (Tryd.func5.symm.trans hfn)).symm
  refine ⟨by kernel_rfl, fun j t ht => ?_⟩
  rw [Tryd.params5] at ht
  have hm : t ∈ [23] := by simpa using Array.mem_of_getElem? ht
  have hall : ∀ t ∈ [23], Tryd.prog.wantsStandIn t = false := by
    intro t ht
    simp only [List.mem_cons, List.not_mem_nil, or_false] at ht
    rcases ht with rfl <;> kernel_rfl
  exact hall t hm

theorem proved : Rows.FieldRootsCardSaid :=
  Claim7.holds_tied_plain_at .later [] _ _ _ _ said (fun _ h => by cases h) (by kernel_rfl) (fun _ h => by cases h) fieldRoots_row_tie rfl ⟨rfl, rfl⟩ (by kernel_rfl) rfl plain (by kernel_rfl)
end lawFieldRoots
end Go.Proofs.YtgkofpfjbjnhfaaDoor
