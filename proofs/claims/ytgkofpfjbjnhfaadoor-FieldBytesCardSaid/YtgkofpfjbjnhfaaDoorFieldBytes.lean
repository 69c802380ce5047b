/- The law FieldBytes: which bytes are numbers', and the bytes of numbers. -/
import Derived.Test.YtgkofpfjbjnhfaaDoorFeLaw
import Derived.Test.YtgkofpfjbjnhfaaDoorScLaw
import Derived.Test.YtgkofpfjbjnhfaaDoorCards
import Derived.Test.YtgkofpfjbjnhfaaDoorTie
import Derived.Deep.DeepHandedRow
namespace Go.Proofs.YtgkofpfjbjnhfaaDoor
namespace Fe
open Go.ChangeShapes Go.WideShapes Go.ChangeAt Go.RowKit
set_option linter.unusedVariables false
set_option linter.unusedSimpArgs false

theorem load_row_g {P : Program} {ops : Array Oper} {rest : List Oper} {o : Oper} {a : Act} {w : World} {Q : Exit → Act → World → Prop} (hw : Region.wanted o (yielded ops a.tmps) = true) (ty : TypeId) (x : Operand) (ho : o.op = .load ty x)
    (g : Nat) (hx : a.eval x = .pointer (some ⟨g, 0, Option.none⟩)) (t : TypeId) (cs : Array Value) (fr : Nat × Nat) (d : TypeDesc) (hg : w.heap[g]? = some (.cells cs t fr))
    (hu : P.underlying ty = some d) (hd : (match d with | .struct _ | .array _ _ => true | _ => false) = true) (hi : (P.info? ty).map (·.size) = some cs.size)
    (h : wpList P ops Q rest (a.put o.dst (.agg cs)) w) : wpList P ops Q (o :: rest) a w :=
  wpList_step fun K hK => by rw [if_pos hw]; exact wp_load_row ty x ho g hx t cs fr d hg hu hd hi (hK _ _ h)
theorem eq_gen {ops : Array Oper} {rest : List Oper} {o : Oper} {a : Act} {w : World} {Q : Exit → Act → World → Prop} (hw : Region.wanted o (yielded ops a.tmps) = true) (t rt : TypeId) (x y : Operand) (ho : o.op = .binOp .eql t x y rt)
    (hgd : Tryd.prog.eqGuardType Tryd.prog.depth t = false) (A B : Array Value) (hx : a.eval x = .agg A) (hy : a.eval y = .agg B) (b : Bool) (he : (Op.equalIn 10000 t (.agg A) (.agg B)).run Tryd.prog w = .ok b w)
    (h : wpList Tryd.prog ops Q rest (a.put o.dst (.bool b)) w) : wpList Tryd.prog ops Q (o :: rest) a w :=
  wpList_step fun K hK => by
    rw [if_pos hw]
    have hr : (execOp a.eval o).run Tryd.prog w = .ok (.value (.bool b)) w := by
      unfold execOp
      rw [ho]
      simp only [hx, hy, Sem.run_bind, run_eqGuard_agg w _ _ _ _ _ _ hgd, run_eql_struct, he, Result.andThen_ok]
      rfl
    unfold Oper.wp
    simp only [hr]
    exact hK _ _ h
set_option maxRecDepth 100000 in
set_option maxHeartbeats 8000000 in
theorem walk_FieldBytes (w : World) (hL : laidMetH Tryd.prog Rows.fieldBytesRow.laid w) (l : List UInt8) (hl : l.length = 32) (n : Nat) (hn : n < 18446744073709551616) :
    Calls Tryd.prog 6 #[.agg (zb l), lv n] w fun e w' => e = .returned (.bool true) ∧ Below w.heap.size w w' := by
  have hT : Tab5 w := tab5_of_laid hL
  clear hL
  have hun := Tryd.underlying27
  have hu := Tryd.underlying25
  have hub := Tryd.underlying48
  have hzn := nZero
  have hz := eZero
  have h0 := (on_all w).alloc (.cells (zb l) 48)
  have s0 := (Str.refl w).alloc (.cells (zb l) 48)
  have H1 := hide h0
  have S1 := hide s0
  clear h0 s0
  have hlt := leN_lt l
  rw [hl, B256] at hlt
  have h4 := P5_lt
  have h255 := P5_255
  have hp255 := P5_255lt
  have hlow : leN l % 2 ^ 255 < 2 ^ 255 := Nat.mod_lt _ (by decide)
  have Hfb := hide (fun X => frombytes_any l hl X)
  have Hdc := hide (fun X h => decode_any l hl X h)
  have Hdec : Hid (decE l = if leN l < P5 then .tuple #[.agg (q4 (leN l)), .int .i64 0] else .tuple #[.agg (q4 0), .int .i64 7]) := hide rfl
  have HP := hide (fun X => rp_any X)
  have Hls := hide (fun X => rless_any (leN l % 2 ^ 255) P5 hlow hp255 X)
  have Hlk := hide (fun (h : leN l < P5) X => like_any (leN l) (leN l) (by omega) h X)
  have Hen := hide (fun X => encode_any (leN l) X)
  have Hwb := hide (show zb (wbs (qs 4 (leN l))) = zb l by rw [bl_wbs _ hlt, bl_leN l hl])
  rw [Hwb.out] at Hen
  have Hsm := hide (fun X => small_any n hn X)
  have HE0 := hide (fun X => eq_q4 X 9998 25 Tryd.underlying25 0 0 (by decide) (by decide))
  have HEn := hide (fun X => eq_q4 X 9998 25 Tryd.underlying25 n n (by omega) (by omega))
  simp only [decide_true] at HE0 HEn
  have HEb : Hid (∀ X, (Op.equalIn 10000 48 (.agg (zb l)) (.agg (zb l))).run Tryd.prog X = .ok (decide (l = l)) X) := hide (fun X => run_eq_bytes (P := Tryd.prog) X 9998 48 5 32 hub Tryd.underlying5 (by kernel_rfl) l l hl hl)
  simp only [decide_true] at HEb
  have Hgd : Hid (Tryd.prog.eqGuardType Tryd.prog.depth 25 = false) := hide (by kernel_rfl)
  have Hgb : Hid (Tryd.prog.eqGuardType Tryd.prog.depth 48 = false) := hide (by kernel_rfl)
  have Hlv := hide (fun X h => lives_any X h)
  have HsB := hide (bInfo l hl)
  have HsLn := hide (nInfo (leN l % 2 ^ 255))
  have HoLn := hide (nOne (leN l % 2 ^ 255))
  have HzLn := hide (nSize 0 (leN l % 2 ^ 255))
  have HsNe := hide (eInfo (leN l))
  have HoNe := hide (eOne (leN l))
  have HzNe := hide (eSize 0 (leN l))
  have HsZe := hide (eInfo 0)
  have HoZe := hide (eOne 0)
  have HzZe : Hid ((q4 0).size = (q4 0).size) := hide rfl
  have Hbn : Hid (∀ X : World, (Instr.build 25 #[(0, lv n)]).run Tryd.prog X = .ok (.agg (q4 n)) X) := hide fun X => by rw [q4_small n hn]; kernel_rfl
  have Hcases : Hid (leN l < P5 ∧ ¬ 2 ^ 255 ≤ leN l ∧ leN l % 2 ^ 255 = leN l ∨ ¬ leN l < P5 ∧ 2 ^ 255 ≤ leN l ∨ ¬ leN l < P5 ∧ ¬ 2 ^ 255 ≤ leN l ∧ ¬ leN l % 2 ^ 255 < P5) := hide (by
    by_cases h1 : leN l < P5
    · exact .inl ⟨h1, by omega, Nat.mod_eq_of_lt (by omega)⟩
    · by_cases h2 : 2 ^ 255 ≤ leN l
      · exact .inr (.inl ⟨h1, h2⟩)
      · exact .inr (.inr ⟨h1, h2, by rw [Nat.mod_eq_of_lt (by omega)]; exact h1⟩))
  clear hlt h4 h255 hp255 hlow hl hn Hwb
  generalize leN l = M at *
  generalize hB : zb l = Bb at *
  generalize hPn : n17 P5 = Pn at *
  generalize hZn : n17 0 = Zn at *
  generalize q4 n = N4 at *
  generalize hZ4 : q4 0 = Z4 at *
  have HZ4 := hide hZ4
  clear hB hPn hZn hZ4
  go_enter Tryd.func6, Tryd.ntmps6
  rcases Hcases.out with ⟨h1, h2, h3⟩ | ⟨h1, h2⟩ | ⟨h1, h2, h3⟩
  · rw [decide_eq_false h2] at Hfb
    have HD := hide (Hdec.out.trans (if_pos h1))
    rw [h3] at Hfb Hls HsLn HoLn HzLn
    rw [decide_eq_true h1] at Hls
    have Hlk2 := hide (Hlk.out h1)
    simp only [decide_true] at Hlk2
    have HX : Hid True := hide trivial
    generalize q4 M = Ne at *
    generalize n17 M = Ln at *
    rw [HD.out] at Hdc
    clear h1 h2 h3 Hdec Hcases Hlk HD
    go_wp2_with fail
    generalize w.alloc (.cells Bb 48) = w1 at *
    refine (Hlv.out _ (hT.below (all_below H1.out.right S1.out))).mono ?_
    rintro e w2 ⟨rfl, hB⟩
    have H2 := hide (H1.out.below hB)
    have S2 := hide (S1.out.trans (Str.below hB))
    clear hB H1 S1
    have g0 := on_blk_mul H2.out
    go_wp2_with (first
      | (refine wpList_load_row rfl _ _ rfl (w.heap.size) rfl _ Bb _ _ g0 hub rfl HsB.out ?_))
    clear g0
    refine (Hfb.out _).mono ?_
    rintro e w3 ⟨rfl, hB⟩
    have H3 := hide (H2.out.below hB)
    have S3 := hide (S2.out.trans (Str.below hB))
    clear hB H2 S2
    have hN := H3.out.alloc (.cells Zn 27)
    have gN := on_blk_mul hN
    have hM := hN.setRow Ln
    have gM := on_blk_mul hM
    have H4 := hide hM
    have S4 := hide ((S3.out.alloc (.cells Zn 27)).setRow w3.heap.size Ln)
    clear hN hM
    have g0 := on_blk_mul H4.out.right
    go_wp2_with (first
      | (refine wpList_store_row rfl _ _ _ rfl (w3.heap.size) Ln rfl rfl _ _ gN HsLn.out HzLn.out HoLn.out ?_)
      | (refine wpList_load_row rfl _ _ rfl (w.heap.size) rfl _ Bb _ _ g0 hub rfl HsB.out ?_))
    clear g0
    generalize (w3.alloc (.cells Zn 27)).setRow w3.heap.size Ln = w4 at *
    clear gN gM H3 S3
    generalize w3.heap.size = p5 at *
    refine (Hdc.out _ (hT.below (all_below H4.out.right.right S4.out))).mono ?_
    rintro e w5 ⟨rfl, hB⟩
    have H5 := hide (H4.out.below hB)
    have S5 := hide (S4.out.trans (Str.below hB))
    clear hB H4 S4
    have HsZ4 := HsZe
    have HoZ4 := HoZe
    have hN := H5.out.alloc (.cells Z4 25)
    have gN := on_blk_mul hN
    have hM := hN.setRow Ne
    have gM := on_blk_mul hM
    have H6 := hide hM
    have S6 := hide ((S5.out.alloc (.cells Z4 25)).setRow w5.heap.size Ne)
    clear hN hM
    go_wp2_with (first
      | (refine wpList_store_row rfl _ _ _ rfl (w5.heap.size) Ne rfl rfl _ _ gN HsNe.out HzNe.out HoNe.out ?_))
    generalize (w5.alloc (.cells Z4 25)).setRow w5.heap.size Ne = w6 at *
    clear gN gM H5 S5
    generalize w5.heap.size = p7 at *
    go_wp2_with fail
    refine wp_region_vs [isV (.bool false), isV (.bool false), isV (.agg Ln), isV (.agg Pn), isV (.bool true), isV (.bool false), isV (.bool false)]
      (by kernel_rfl) (by kernel_rfl) rfl ?keep ?todo ?rest
    case keep => exact ⟨Keep.isV _, Keep.isV _, Keep.isV _, Keep.isV _, Keep.isV _, Keep.isV _, Keep.isV _, trivial⟩
    case todo =>
      refine ⟨?_, ?_, ?_, ?_, ?_, ?_, ?_, trivial⟩
      · intro ev X hT hb hk hf
        have e0 : ev (.tmp 6) = .bool false := hk.1
        exact OpOk.move rfl e0 ⟨rfl, Stay.refl _⟩
      · intro ev X hT hb hk hf
        have e0 : ev (.tmp 21) = .bool false := hf.1
        exact OpOk.move rfl e0 ⟨rfl, Stay.refl _⟩
      · intro ev X hT hb hk hf
        refine ⟨false, hf.1, fun _ => ?_, fun h => (h rfl).elim⟩
        have e0 : ev (.tmp 5) = .pointer (some ⟨p5, 0, Option.none⟩) := hk.1
        exact OpOk.load_row _ _ rfl _ e0 _ Ln (0, 0) _ (on_blk_mul (H6.out.below hT).right) hun rfl HsLn.out ⟨rfl, Stay.refl _⟩
      · intro ev X hT hb hk hf
        refine ⟨false, hf.1, fun _ => ?_, fun h => (h rfl).elim⟩
        refine OpOk.enters (f := 33) (args := #[]) (W' := X) (by simp [execOp, resolve, invoke, hb.1, hb.2.1, go_sem]) ((HP.out X).mono ?_)
        rintro e _ ⟨rfl, hB⟩
        exact ⟨_, rfl, rfl, hB⟩
      · intro ev X hT hb hk hf
        refine ⟨false, hf.2.2.2.1, fun _ => ?_, fun h => (h rfl).elim⟩
        have e0 : ev (.tmp 23) = .agg Ln := hf.1
        have e1 : ev (.tmp 24) = .agg Pn := hf.2.1
        refine OpOk.enters (f := 31) (args := #[.agg Ln, .agg Pn]) (W' := X) (by simp [execOp, resolve, invoke, e0, e1, hb.1, hb.2.1, go_sem]) ((Hls.out X).mono ?_)
        rintro e _ ⟨rfl, hB⟩
        exact ⟨_, rfl, rfl, hB⟩
      · intro ev X hT hb hk hf
        refine ⟨false, hf.2.1, fun _ => ?_, fun h => (h rfl).elim⟩
        have e0 : ev (.tmp 25) = .bool true := hf.1
        exact OpOk.run (v := .bool false) (W' := X) (by simp [execOp, e0, hb.1, go_sem]) ⟨rfl, Stay.refl _⟩
      · intro ev X hT hb hk hf
        have e0 : ev (.tmp 22) = .bool false := hf.1
        have e1 : ev (.tmp 26) = .bool false := hf.2.1
        exact OpOk.run (v := .bool false) (W' := X) (by simp [execOp, e0, e1, hb, hb.1, hb.2.1, hb.2.2, go_sem]) ⟨rfl, Stay.refl _⟩
    case rest =>
      intro w7 hX
      rintro _ - _ - _ - _ - _ - _ - _ rfl
      have H7 := hide (H6.out.below hX)
      have S7 := hide (S6.out.trans (Str.below hX))
      clear hX H6 S6
      go_wp2
      refine Rest.done ?_
      go_wp2_with fail
      refine wp_region_vs [isV (.int .i64 0), isV (.bool true), isV (.bool true), isV (.agg Ne), isV (.agg Ln), isV (.bool true), isV (.bool true), isV (.bool true), isV (.agg Ne), isV (.agg Bb), isV (.agg Bb), isV (.bool true), isV (.bool true), isV (.bool true), isV (lv n), isV (.agg N4), isV (lv n), isV (.agg N4), isV (.bool true), isV (.bool true), isV (.bool true)]
        (by kernel_rfl) (by kernel_rfl) rfl ?keep ?todo ?rest
      case keep => exact ⟨Keep.isV _, Keep.isV _, Keep.isV _, Keep.isV _, Keep.isV _, Keep.isV _, Keep.isV _, Keep.isV _, Keep.isV _, Keep.isV _, Keep.isV _, Keep.isV _, Keep.isV _, Keep.isV _, Keep.isV _, Keep.isV _, Keep.isV _, Keep.isV _, Keep.isV _, Keep.isV _, Keep.isV _, trivial⟩
      case todo =>
        refine ⟨?_, ?_, ?_, ?_, ?_, ?_, ?_, ?_, ?_, ?_, ?_, ?_, ?_, ?_, ?_, ?_, ?_, ?_, ?_, ?_, ?_, trivial⟩
        · intro ev X hT hb hk hf
          have e0 : ev (.tmp 8) = .int .i64 0 := hk.1
          exact OpOk.move rfl e0 ⟨rfl, Stay.refl _⟩
        · intro ev X hT hb hk hf
          have e0 : ev (.tmp 35) = .int .i64 0 := hf.1
          exact OpOk.run (v := .bool true) (W' := X) (by simp [execOp, e0, hb.1, go_sem]) ⟨rfl, Stay.refl _⟩
        · intro ev X hT hb hk hf
          have e0 : ev (.tmp 36) = .bool true := hf.1
          exact OpOk.move rfl e0 ⟨rfl, Stay.refl _⟩
        · intro ev X hT hb hk hf
          refine ⟨true, hf.1, fun _ => ?_, fun h => (h rfl).elim⟩
          have e0 : ev (.tmp 7) = .pointer (some ⟨p7, 0, Option.none⟩) := hk.1
          exact OpOk.load_row _ _ rfl _ e0 _ Ne (0, 0) _ (on_blk_mul (H7.out.below hT)) hu rfl HsNe.out ⟨rfl, Stay.refl _⟩
        · intro ev X hT hb hk hf
          refine ⟨true, hf.1, fun _ => ?_, fun h => (h rfl).elim⟩
          have e0 : ev (.tmp 5) = .pointer (some ⟨p5, 0, Option.none⟩) := hk.1
          exact OpOk.load_row _ _ rfl _ e0 _ Ln (0, 0) _ (on_blk_mul (H7.out.below hT).right) hun rfl HsLn.out ⟨rfl, Stay.refl _⟩
        · intro ev X hT hb hk hf
          refine ⟨true, hf.2.2.1, fun _ => ?_, fun h => (h rfl).elim⟩
          have e0 : ev (.tmp 38) = .agg Ne := hf.1
          have e1 : ev (.tmp 39) = .agg Ln := hf.2.1
          refine OpOk.enters (f := 16) (args := #[.agg Ne, .agg Ln]) (W' := X) (by simp [execOp, resolve, invoke, e0, e1, hb.1, hb.2.1, go_sem]) ((Hlk2.out X).mono ?_)
          rintro e _ ⟨rfl, hB⟩
          exact ⟨_, rfl, rfl, hB⟩
        · intro ev X hT hb hk hf
          have e0 : ev (.tmp 37) = .bool true := hf.1
          have e1 : ev (.tmp 40) = .bool true := hf.2.1
          exact OpOk.run (v := .bool true) (W' := X) (by simp [execOp, e0, e1, hb, hb.1, hb.2.1, hb.2.2, go_sem]) ⟨rfl, Stay.refl _⟩
        · intro ev X hT hb hk hf
          have e0 : ev (.tmp 41) = .bool true := hf.1
          exact OpOk.move rfl e0 ⟨rfl, Stay.refl _⟩
        · intro ev X hT hb hk hf
          refine ⟨true, hf.1, fun _ => ?_, fun h => (h rfl).elim⟩
          have e0 : ev (.tmp 7) = .pointer (some ⟨p7, 0, Option.none⟩) := hk.1
          exact OpOk.load_row _ _ rfl _ e0 _ Ne (0, 0) _ (on_blk_mul (H7.out.below hT)) hu rfl HsNe.out ⟨rfl, Stay.refl _⟩
        · intro ev X hT hb hk hf
          refine ⟨true, hf.2.1, fun _ => ?_, fun h => (h rfl).elim⟩
          have e0 : ev (.tmp 43) = .agg Ne := hf.1
          refine OpOk.enters (f := 36) (args := #[.agg Ne]) (W' := X) (by simp [execOp, resolve, invoke, e0, hb.1, hb.2.1, go_sem]) ((Hen.out X).mono ?_)
          rintro e _ ⟨rfl, hB⟩
          exact ⟨_, rfl, rfl, hB⟩
        · intro ev X hT hb hk hf
          refine ⟨true, hf.1, fun _ => ?_, fun h => (h rfl).elim⟩
          have e0 : ev (.tmp 2) = .pointer (some ⟨w.heap.size, 0, Option.none⟩) := hk.1
          exact OpOk.load_row _ _ rfl _ e0 _ Bb (0, 0) _ (on_blk_mul (H7.out.below hT).right.right) hub rfl HsB.out ⟨rfl, Stay.refl _⟩
        · intro ev X hT hb hk hf
          refine ⟨true, hf.2.2.1, fun _ => ?_, fun h => (h rfl).elim⟩
          have e0 : ev (.tmp 44) = .agg Bb := hf.1
          have e1 : ev (.tmp 45) = .agg Bb := hf.2.1
          exact OpOk.run (v := .bool true) (W' := X) (by
            unfold execOp
            simp only [e0, e1, Sem.run_bind, run_eqGuard_agg X _ _ _ _ _ _ Hgb.out, run_eql_struct, HEb.out X, Result.andThen_ok]
            rfl) ⟨rfl, Stay.refl _⟩
        · intro ev X hT hb hk hf
          have e0 : ev (.tmp 42) = .bool true := hf.1
          have e1 : ev (.tmp 46) = .bool true := hf.2.1
          exact OpOk.run (v := .bool true) (W' := X) (by simp [execOp, e0, e1, hb, hb.1, hb.2.1, hb.2.2, go_sem]) ⟨rfl, Stay.refl _⟩
        · intro ev X hT hb hk hf
          have e0 : ev (.tmp 47) = .bool true := hf.1
          exact OpOk.move rfl e0 ⟨rfl, Stay.refl _⟩
        · intro ev X hT hb hk hf
          refine ⟨true, hf.1, fun _ => ?_, fun h => (h rfl).elim⟩
          have e0 : ev (.tmp 1) = lv n := hk.1
          exact OpOk.move rfl e0 ⟨rfl, Stay.refl _⟩
        · intro ev X hT hb hk hf
          refine ⟨true, hf.2.1, fun _ => ?_, fun h => (h rfl).elim⟩
          have e0 : ev (.tmp 49) = lv n := hf.1
          refine OpOk.enters (f := 37) (args := #[lv n]) (W' := X) (by simp [execOp, resolve, invoke, e0, hb.1, hb.2.1, go_sem]) ((Hsm.out X).mono ?_)
          rintro e _ ⟨rfl, hB⟩
          exact ⟨_, rfl, rfl, hB⟩
        · intro ev X hT hb hk hf
          refine ⟨true, hf.1, fun _ => ?_, fun h => (h rfl).elim⟩
          have e0 : ev (.tmp 1) = lv n := hk.1
          exact OpOk.move rfl e0 ⟨rfl, Stay.refl _⟩
        · intro ev X hT hb hk hf
          refine ⟨true, hf.2.1, fun _ => ?_, fun h => (h rfl).elim⟩
          have e0 : ev (.tmp 51) = lv n := hf.1
          exact OpOk.run (v := .agg N4) (W' := X) (by simp [execOp, e0, Hbn.out X]) ⟨rfl, Stay.refl _⟩
        · intro ev X hT hb hk hf
          refine ⟨true, hf.2.2.1, fun _ => ?_, fun h => (h rfl).elim⟩
          have e0 : ev (.tmp 50) = .agg N4 := hf.1
          have e1 : ev (.tmp 52) = .agg N4 := hf.2.1
          exact OpOk.run (v := .bool true) (W' := X) (by
            unfold execOp
            simp only [e0, e1, Sem.run_bind, run_eqGuard_agg X _ _ _ _ _ _ Hgd.out, run_eql_struct, HEn.out X, Result.andThen_ok]
            rfl) ⟨rfl, Stay.refl _⟩
        · intro ev X hT hb hk hf
          have e0 : ev (.tmp 48) = .bool true := hf.1
          have e1 : ev (.tmp 53) = .bool true := hf.2.1
          exact OpOk.run (v := .bool true) (W' := X) (by simp [execOp, e0, e1, hb, hb.1, hb.2.1, hb.2.2, go_sem]) ⟨rfl, Stay.refl _⟩
        · intro ev X hT hb hk hf
          have e0 : ev (.tmp 54) = .bool true := hf.1
          exact OpOk.assign rfl e0 ⟨rfl, Stay.refl _⟩
      case rest =>
        intro X9 hX
        rintro _ - _ - _ - _ - _ - _ - _ - _ - _ - _ - _ - _ - _ - _ - _ - _ - _ - _ - _ - _ - _ rfl
        have HB := hide (all_below (H7.out.below hX).right.right.right (S7.out.trans (Str.below hX)))
        clear hX
        go_wp2
        refine Rest.done ?_
        go_wp2_with fail
        go_ret
        exact ⟨rfl, HB.out⟩
  · rw [decide_eq_true h2] at Hfb
    have HD := hide (Hdec.out.trans (if_neg h1))
    generalize n17 (M % 2 ^ 255) = Ln at *
    rw [HD.out] at Hdc
    clear h1 h2 Hdec Hcases Hlk HD
    go_wp2_with fail
    generalize w.alloc (.cells Bb 48) = w1 at *
    refine (Hlv.out _ (hT.below (all_below H1.out.right S1.out))).mono ?_
    rintro e w2 ⟨rfl, hB⟩
    have H2 := hide (H1.out.below hB)
    have S2 := hide (S1.out.trans (Str.below hB))
    clear hB H1 S1
    have g0 := on_blk_mul H2.out
    go_wp2_with (first
      | (refine wpList_load_row rfl _ _ rfl (w.heap.size) rfl _ Bb _ _ g0 hub rfl HsB.out ?_))
    clear g0
    refine (Hfb.out _).mono ?_
    rintro e w3 ⟨rfl, hB⟩
    have H3 := hide (H2.out.below hB)
    have S3 := hide (S2.out.trans (Str.below hB))
    clear hB H2 S2
    have hN := H3.out.alloc (.cells Zn 27)
    have gN := on_blk_mul hN
    have hM := hN.setRow Ln
    have gM := on_blk_mul hM
    have H4 := hide hM
    have S4 := hide ((S3.out.alloc (.cells Zn 27)).setRow w3.heap.size Ln)
    clear hN hM
    have g0 := on_blk_mul H4.out.right
    go_wp2_with (first
      | (refine wpList_store_row rfl _ _ _ rfl (w3.heap.size) Ln rfl rfl _ _ gN HsLn.out HzLn.out HoLn.out ?_)
      | (refine wpList_load_row rfl _ _ rfl (w.heap.size) rfl _ Bb _ _ g0 hub rfl HsB.out ?_))
    clear g0
    generalize (w3.alloc (.cells Zn 27)).setRow w3.heap.size Ln = w4 at *
    clear gN gM H3 S3
    generalize w3.heap.size = p5 at *
    refine (Hdc.out _ (hT.below (all_below H4.out.right.right S4.out))).mono ?_
    rintro e w5 ⟨rfl, hB⟩
    have H5 := hide (H4.out.below hB)
    have S5 := hide (S4.out.trans (Str.below hB))
    clear hB H4 S4
    have HsZ4 := HsZe
    have HoZ4 := HoZe
    have hN := H5.out.alloc (.cells Z4 25)
    have gN := on_blk_mul hN
    have hM := hN.setRow Z4
    have gM := on_blk_mul hM
    have H6 := hide hM
    have S6 := hide ((S5.out.alloc (.cells Z4 25)).setRow w5.heap.size Z4)
    clear hN hM
    go_wp2_with (first
      | (refine wpList_store_row rfl _ _ _ rfl (w5.heap.size) Z4 rfl rfl _ _ gN HsZ4.out rfl HoZ4.out ?_))
    generalize (w5.alloc (.cells Z4 25)).setRow w5.heap.size Z4 = w6 at *
    clear gN gM H5 S5
    generalize w5.heap.size = p7 at *
    go_wp2_with fail
    refine wp_region_vsg [isV (.bool true), isV (.bool true), isV (undef), isV (undef), isV (undef), isV (undef), isV (.bool true)]
      (by kernel_rfl) (by kernel_rfl) rfl ?keep ?todo ?rest
    case keep => exact ⟨Keep.isV _, Keep.isV _, Keep.isV _, Keep.isV _, Keep.isV _, Keep.isV _, Keep.isV _, trivial⟩
    case todo =>
      refine ⟨?_, ?_, ?_, ?_, ?_, ?_, ?_, trivial⟩
      · intro ev X hT hb hk hf
        have e0 : ev (.tmp 6) = .bool true := hk.1
        exact OpOk.move rfl e0 ⟨rfl, Stay.refl _⟩
      · intro ev X hT hb hk hf
        have e0 : ev (.tmp 21) = .bool true := hf.1
        exact OpOk.move rfl e0 ⟨rfl, Stay.refl _⟩
      · exact fun ev X hT hb hk hf => .inl ⟨true, hf.1, fun h => (nomatch h), fun _ => rfl⟩
      · exact fun ev X hT hb hk hf => .inl ⟨true, hf.1, fun h => (nomatch h), fun _ => rfl⟩
      · exact fun ev X hT hb hk hf => .inl ⟨true, hf.2.2.2.1, fun h => (nomatch h), fun _ => rfl⟩
      · exact fun ev X hT hb hk hf => .inl ⟨true, hf.2.1, fun h => (nomatch h), fun _ => rfl⟩
      · intro ev X hT hb hk hf
        have e0 : ev (.tmp 22) = .bool true := hf.1
        have e1 : ev (.tmp 26) = undef := hf.2.1
        exact OpOk.run (v := .bool true) (W' := X) (by simp [execOp, e0, e1, hb, hb.1, hb.2.1, hb.2.2, go_sem]) ⟨rfl, Stay.refl _⟩
    case rest =>
      intro w7 hX
      rintro _ - _ - _ - _ - _ - _ - _ rfl
      have H7 := hide (H6.out.below hX)
      have S7 := hide (S6.out.trans (Str.below hX))
      clear hX H6 S6
      go_wp2
      refine Rest.done ?_
      have g0 := on_blk_mul H7.out
      have HB := hide (all_below H7.out.right.right.right S7.out)
      go_wp2_with (first
        | (refine load_row_g rfl _ _ rfl p7 rfl _ Z4 _ _ g0 hu rfl HsZe.out ?_)
        | (refine bz4 rfl rfl Z4 HZ4.out ?_)
        | (refine eq_gen rfl _ _ _ _ rfl Hgd.out Z4 Z4 rfl rfl true (HE0.out _) ?_))
      go_ret
      exact ⟨rfl, HB.out⟩
  · rw [decide_eq_false h2] at Hfb
    have HD := hide (Hdec.out.trans (if_neg h1))
    rw [decide_eq_false h3] at Hls
    generalize n17 (M % 2 ^ 255) = Ln at *
    rw [HD.out] at Hdc
    clear h1 h2 h3 Hdec Hcases Hlk HD
    go_wp2_with fail
    generalize w.alloc (.cells Bb 48) = w1 at *
    refine (Hlv.out _ (hT.below (all_below H1.out.right S1.out))).mono ?_
    rintro e w2 ⟨rfl, hB⟩
    have H2 := hide (H1.out.below hB)
    have S2 := hide (S1.out.trans (Str.below hB))
    clear hB H1 S1
    have g0 := on_blk_mul H2.out
    go_wp2_with (first
      | (refine wpList_load_row rfl _ _ rfl (w.heap.size) rfl _ Bb _ _ g0 hub rfl HsB.out ?_))
    clear g0
    refine (Hfb.out _).mono ?_
    rintro e w3 ⟨rfl, hB⟩
    have H3 := hide (H2.out.below hB)
    have S3 := hide (S2.out.trans (Str.below hB))
    clear hB H2 S2
    have hN := H3.out.alloc (.cells Zn 27)
    have gN := on_blk_mul hN
    have hM := hN.setRow Ln
    have gM := on_blk_mul hM
    have H4 := hide hM
    have S4 := hide ((S3.out.alloc (.cells Zn 27)).setRow w3.heap.size Ln)
    clear hN hM
    have g0 := on_blk_mul H4.out.right
    go_wp2_with (first
      | (refine wpList_store_row rfl _ _ _ rfl (w3.heap.size) Ln rfl rfl _ _ gN HsLn.out HzLn.out HoLn.out ?_)
      | (refine wpList_load_row rfl _ _ rfl (w.heap.size) rfl _ Bb _ _ g0 hub rfl HsB.out ?_))
    clear g0
    generalize (w3.alloc (.cells Zn 27)).setRow w3.heap.size Ln = w4 at *
    clear gN gM H3 S3
    generalize w3.heap.size = p5 at *
    refine (Hdc.out _ (hT.below (all_below H4.out.right.right S4.out))).mono ?_
    rintro e w5 ⟨rfl, hB⟩
    have H5 := hide (H4.out.below hB)
    have S5 := hide (S4.out.trans (Str.below hB))
    clear hB H4 S4
    have HsZ4 := HsZe
    have HoZ4 := HoZe
    have hN := H5.out.alloc (.cells Z4 25)
    have gN := on_blk_mul hN
    have hM := hN.setRow Z4
    have gM := on_blk_mul hM
    have H6 := hide hM
    have S6 := hide ((S5.out.alloc (.cells Z4 25)).setRow w5.heap.size Z4)
    clear hN hM
    go_wp2_with (first
      | (refine wpList_store_row rfl _ _ _ rfl (w5.heap.size) Z4 rfl rfl _ _ gN HsZ4.out rfl HoZ4.out ?_))
    generalize (w5.alloc (.cells Z4 25)).setRow w5.heap.size Z4 = w6 at *
    clear gN gM H5 S5
    generalize w5.heap.size = p7 at *
    go_wp2_with fail
    refine wp_region_vs [isV (.bool false), isV (.bool false), isV (.agg Ln), isV (.agg Pn), isV (.bool false), isV (.bool true), isV (.bool true)]
      (by kernel_rfl) (by kernel_rfl) rfl ?keep ?todo ?rest
    case keep => exact ⟨Keep.isV _, Keep.isV _, Keep.isV _, Keep.isV _, Keep.isV _, Keep.isV _, Keep.isV _, trivial⟩
    case todo =>
      refine ⟨?_, ?_, ?_, ?_, ?_, ?_, ?_, trivial⟩
      · intro ev X hT hb hk hf
        have e0 : ev (.tmp 6) = .bool false := hk.1
        exact OpOk.move rfl e0 ⟨rfl, Stay.refl _⟩
      · intro ev X hT hb hk hf
        have e0 : ev (.tmp 21) = .bool false := hf.1
        exact OpOk.move rfl e0 ⟨rfl, Stay.refl _⟩
      · intro ev X hT hb hk hf
        refine ⟨false, hf.1, fun _ => ?_, fun h => (h rfl).elim⟩
        have e0 : ev (.tmp 5) = .pointer (some ⟨p5, 0, Option.none⟩) := hk.1
        exact OpOk.load_row _ _ rfl _ e0 _ Ln (0, 0) _ (on_blk_mul (H6.out.below hT).right) hun rfl HsLn.out ⟨rfl, Stay.refl _⟩
      · intro ev X hT hb hk hf
        refine ⟨false, hf.1, fun _ => ?_, fun h => (h rfl).elim⟩
        refine OpOk.enters (f := 33) (args := #[]) (W' := X) (by simp [execOp, resolve, invoke, hb.1, hb.2.1, go_sem]) ((HP.out X).mono ?_)
        rintro e _ ⟨rfl, hB⟩
        exact ⟨_, rfl, rfl, hB⟩
      · intro ev X hT hb hk hf
        refine ⟨false, hf.2.2.2.1, fun _ => ?_, fun h => (h rfl).elim⟩
        have e0 : ev (.tmp 23) = .agg Ln := hf.1
        have e1 : ev (.tmp 24) = .agg Pn := hf.2.1
        refine OpOk.enters (f := 31) (args := #[.agg Ln, .agg Pn]) (W' := X) (by simp [execOp, resolve, invoke, e0, e1, hb.1, hb.2.1, go_sem]) ((Hls.out X).mono ?_)
        rintro e _ ⟨rfl, hB⟩
        exact ⟨_, rfl, rfl, hB⟩
      · intro ev X hT hb hk hf
        refine ⟨false, hf.2.1, fun _ => ?_, fun h => (h rfl).elim⟩
        have e0 : ev (.tmp 25) = .bool false := hf.1
        exact OpOk.run (v := .bool true) (W' := X) (by simp [execOp, e0, hb.1, go_sem]) ⟨rfl, Stay.refl _⟩
      · intro ev X hT hb hk hf
        have e0 : ev (.tmp 22) = .bool false := hf.1
        have e1 : ev (.tmp 26) = .bool true := hf.2.1
        exact OpOk.run (v := .bool true) (W' := X) (by simp [execOp, e0, e1, hb, hb.1, hb.2.1, hb.2.2, go_sem]) ⟨rfl, Stay.refl _⟩
    case rest =>
      intro w7 hX
      rintro _ - _ - _ - _ - _ - _ - _ rfl
      have H7 := hide (H6.out.below hX)
      have S7 := hide (S6.out.trans (Str.below hX))
      clear hX H6 S6
      go_wp2
      refine Rest.done ?_
      have g0 := on_blk_mul H7.out
      have HB := hide (all_below H7.out.right.right.right S7.out)
      go_wp2_with (first
        | (refine load_row_g rfl _ _ rfl p7 rfl _ Z4 _ _ g0 hu rfl HsZe.out ?_)
        | (refine bz4 rfl rfl Z4 HZ4.out ?_)
        | (refine eq_gen rfl _ _ _ _ rfl Hgd.out Z4 Z4 rfl rfl true (HE0.out _) ?_))
      go_ret
      exact ⟨rfl, HB.out⟩
end Fe
open Go.ChangeShapes Go.WideShapes Go.ChangeAt Go.RowKit
theorem walk_FieldBytes (w : World) (hL : laidMetH Tryd.prog Rows.fieldBytesRow.laid w) (l : List UInt8) (hl : l.length = 32) (n : Int) (h1 : 0 ≤ n) (h2 : n ≤ 18446744073709551615) :
    Calls Tryd.prog 6 #[.agg (zb l), .int .u64 n] w fun e w' => e = .returned (.bool true) ∧ Below w.heap.size w w' := by
  obtain ⟨m, rfl⟩ := Int.eq_ofNat_of_zero_le h1
  exact Fe.walk_FieldBytes w hL l hl m (by omega)
namespace lawFieldBytes
theorem own : ownKnob Tryd.prog.godebug = Option.none := by kernel_rfl
theorem laidOut : laidOutB Tryd.prog = true := by kernel_rfl

set_option maxRecDepth 100000 in
theorem contract (H : Type) (enc : TypeId × Value → H) (W : World) (base : Nat) (args : Array Value) (ds gs : List (DataW H)) (before : List MemPlace)
    (hval0 : ∀ (j : Nat) t v, Tryd.f6.params[j]? = some t → args[j]? = some v → Value.okWide Tryd.prog W .any base t v)
    (hW : DataW.Whole enc Tryd.prog Tryd.f6.params.toList Rows.fieldBytesSpec.vars false W args.toList ds gs before) (hsz : (DataW.weightsEach Tryd.prog (Tryd.f6.params.toList ++ (OpenSpec.ofChange Rows.fieldBytesSpec).bare.plain.varTypes Tryd.prog) (ds ++ gs)).all (· ≤ reachBytes) = true) (hL : laidMetH Tryd.prog Rows.fieldBytesRow.laid W) :
    Calls Tryd.prog 6 args W fun e W' => ∃ v, e = .returned v ∧ Rows.fieldBytesSpec.post enc Tryd.prog Tryd.f6 false true false false W args v W' := by
  have hval : ∀ (j : Nat) t v, Tryd.f6.params[j]? = some t → args[j]? = some v → Value.okWide Tryd.prog W .any base t v := hval0
  have hW' := hW
  obtain ⟨p, q, hA0, hV, rfl, hfz, hnd⟩ := hW
  have hA : DataW.TrodAll enc Tryd.prog W 0 (fun _ => true) true Tryd.f6.params.toList args.toList ds p := hA0
  rw [Tryd.params6] at hA hval
  obtain ⟨v0, vs0, d0, ds0, p0, q0, hargs, rfl, rfl, h0, r0⟩ := trodAll_cons hA
  obtain ⟨v1, vs1, d1, ds1, p1, q1, rfl, rfl, rfl, h1, r1⟩ := trodAll_cons r0
  obtain ⟨rfl, rfl, rfl⟩ := trodAll_nil r1
  obtain rfl : args = #[v0, v1] := by cases args; simp_all
  obtain ⟨rfl, rfl⟩ := trodVars_none hV
  have k0 := h0
  have lt0 : ∀ x ∈ p0, x.block < W.heap.size := by obtain ⟨m, hm⟩ := k0; exact DataW.trod_lt m _ _ _ hm
  obtain ⟨s0, rfl, b0⟩ := open_b32 (hval 0 48 v0 rfl rfl) h0
  have k1 := h1
  have lt1 : ∀ x ∈ p1, x.block < W.heap.size := by obtain ⟨m, hm⟩ := k1; exact DataW.trod_lt m _ _ _ hm
  obtain ⟨a1, rfl, rfl, rfl, w1⟩ := open_int Tryd.underlying22 (hval 1 22 v1 rfl rfl) h1
  obtain ⟨l1, u1⟩ := wf_u64 w1
  clear hA0 hval0 hsz
  refine (walk_FieldBytes W hL s0 b0 a1 l1 u1).mono fun e W' ⟨he, bel⟩ => ?_
  subst he
  exact ⟨_, rfl, _, _, _, [], _, [], hW', trodAll_mk1 (shut_bool Tryd.underlying4 _), (trodAll_cons_mk (Below.trod laidOut (by kernel_rfl) (of_decide_eq_true (by kernel_rfl)) k0 bel lt0) (trodAll_cons_mk (shut_int Tryd.underlying22 w1) trodAll_mk0)), rfl, bel.frame _, fun h => by cases h⟩

/-- a world for the witness: the settled one, the listed variables holding what their initialisers lay -/
def litCells (d : DataW Unit) : Array Value := match d with
  | .agg l => (l.filterMap fun x => match x with | .lit (.int k n) => some (Value.int k n) | _ => Option.none).toArray
  | _ => #[]
noncomputable def laidWorld (os : Os) : World :=
  { World.holding Tryd.prog os ⟨#[], #[], []⟩ with heap := ((((World.holding Tryd.prog os ⟨#[], #[], []⟩).heap.modify 0 fun
      | .cells _ t frozen => .cells (litCells Rows.laid_bosun_field_modulus) t frozen
      | o => o).modify 2 fun
      | .cells _ t frozen => .cells (litCells Rows.laid_bosun_field_eighth) t frozen
      | o => o).modify 3 fun
      | .cells _ t frozen => .cells (litCells Rows.laid_bosun_field_rootOfMinusOne) t frozen
      | o => o) }
theorem laid_met (os : Os) : laidMet Tryd.prog Rows.fieldBytesRow.laid ((laidWorld os).forCall (fun _ _ => 0) ⟨#[], #[.agg #[.int .u8 0, .int .u8 0, .int .u8 0, .int .u8 0, .int .u8 0, .int .u8 0, .int .u8 0, .int .u8 0, .int .u8 0, .int .u8 0, .int .u8 0, .int .u8 0, .int .u8 0, .int .u8 0, .int .u8 0, .int .u8 0, .int .u8 0, .int .u8 0, .int .u8 0, .int .u8 0, .int .u8 0, .int .u8 0, .int .u8 0, .int .u8 0, .int .u8 0, .int .u8 0, .int .u8 0, .int .u8 0, .int .u8 0, .int .u8 0, .int .u8 0, .int .u8 0], .int .u64 0], []⟩).memory :=
  laidMet_of_run' 8 (by kernel_rfl) (by kernel_rfl)
theorem reads (os : Os) {H : Type} (enc : TypeId × Value → H) : ∃ places, DataW.whole enc Tryd.prog ((laidWorld os).forCall (fun _ _ => 0) ⟨#[], #[.agg #[.int .u8 0, .int .u8 0, .int .u8 0, .int .u8 0, .int .u8 0, .int .u8 0, .int .u8 0, .int .u8 0, .int .u8 0, .int .u8 0, .int .u8 0, .int .u8 0, .int .u8 0, .int .u8 0, .int .u8 0, .int .u8 0, .int .u8 0, .int .u8 0, .int .u8 0, .int .u8 0, .int .u8 0, .int .u8 0, .int .u8 0, .int .u8 0, .int .u8 0, .int .u8 0, .int .u8 0, .int .u8 0, .int .u8 0, .int .u8 0, .int .u8 0, .int .u8 0], .int .u64 0], []⟩).memory Tryd.f6.params.toList Rows.fieldBytesSpec.vars false (#[.agg #[.int .u8 0, .int .u8 0, .int .u8 0, .int .u8 0, .int .u8 0, .int .u8 0, .int .u8 0, .int .u8 0, .int .u8 0, .int .u8 0, .int .u8 0, .int .u8 0, .int .u8 0, .int .u8 0, .int .u8 0, .int .u8 0, .int .u8 0, .int .u8 0, .int .u8 0, .int .u8 0, .int .u8 0, .int .u8 0, .int .u8 0, .int .u8 0, .int .u8 0, .int .u8 0, .int .u8 0, .int .u8 0, .int .u8 0, .int .u8 0, .int .u8 0, .int .u8 0], .int .u64 0] : Array Value).toList 8 = some ([.agg (List.replicate 32 (.lit (.int .u8 0))), .lit (.int .u64 0)], [], places) :=
  ⟨[], by kernel_rfl⟩

set_option maxRecDepth 100000 in
theorem lifted (os : Os) (started : os.Started) (H : Type) (enc : TypeId × Value → H) (F : Stop.Interp) :
    ReturnsInHanded {} Tryd.checked os 6 .any ((OpenSpec.ofChange Rows.fieldBytesSpec).preRow enc Tryd.prog Tryd.f6 Rows.fieldBytesRow.domain false Rows.fieldBytesRow.laid) (((OpenSpec.ofChange Rows.fieldBytesSpec).at F).post enc Tryd.prog Tryd.f6 false true false false) := by
  obtain ⟨places, hx⟩ := reads os enc
  refine returnsInHanded_of_row (C := Tryd.checked) (s := OpenSpec.ofChange Rows.fieldBytesSpec) own started (by kernel_rfl) Tryd.func6
    (witness_row_at (enc := enc) (C := Tryd.checked) false (laidWorld os) #[.agg #[.int .u8 0, .int .u8 0, .int .u8 0, .int .u8 0, .int .u8 0, .int .u8 0, .int .u8 0, .int .u8 0, .int .u8 0, .int .u8 0, .int .u8 0, .int .u8 0, .int .u8 0, .int .u8 0, .int .u8 0, .int .u8 0, .int .u8 0, .int .u8 0, .int .u8 0, .int .u8 0, .int .u8 0, .int .u8 0, .int .u8 0, .int .u8 0, .int .u8 0, .int .u8 0, .int .u8 0, .int .u8 0, .int .u8 0, .int .u8 0, .int .u8 0, .int .u8 0], .int .u64 0] rfl (by kernel_rfl) (by kernel_rfl) (by kernel_rfl)
      (OpenSpec.preRow_of_cond 8 hx (by kernel_rfl) (fun k hk => by cases hk) (by kernel_rfl) (laid_met os))) ?_
  intro W base args ds gs before hval hW _ _ hsz hL _ _
  exact contract H enc W base args ds gs before hval hW hsz hL

theorem said : Rows.FieldBytesSaid :=
  OpenClaim.holds_of_cond 6 Tryd.f6 rfl rfl rfl rfl rfl rfl rfl ⟨rfl, rfl, rfl, rfl, rfl⟩ rfl rfl rfl rfl rfl (by kernel_rfl) Tryd.func6 (by kernel_rfl)
    (of_decide_eq_true (by kernel_rfl)) (by unfold Func.isWrapper; first | (rw [if_pos (by decide +kernel)]; kernel_rfl) | (rw [if_neg (by decide +kernel)]; exact ⟨rfl, rfl⟩))
    (fun os started H enc _ F => by rw [OpenClaim.pre_eq_preRow]; exact lifted os started H enc F)

theorem plain (f : FuncId) (fn : Func) (hf : Tryd.pinned.checked.prog.funcNamed "bosun/bosunlaw05.FieldBytes" = some f) (hfn : Tryd.pinned.checked.prog.funcs[f]? = some fn) :
    false = Tryd.pinned.checked.prog.looks [] ∧ ∀ (j : Nat) t, fn.params[j]? = some t → Tryd.pinned.checked.prog.wantsStandIn t = false := by
  obtain rfl : f = 6 := Option.some.inj ((show Tryd.prog.funcNamed "bosun/bosunlaw05.FieldBytes" = some 6 by kernel_rfl).symm.trans hf) |>.symm
  obtain rfl : fn = Tryd.f6 := (Option.some.inj (Tryd.func6.symm.trans hfn)).symm
  refine ⟨by kernel_rfl, fun j t ht => ?_⟩
  rw [Tryd.params6] at ht
  have hm : t ∈ [48, 22] := by simpa using Array.mem_of_getElem? ht
  have hall : ∀ t ∈ [48, 22], Tryd.prog.wantsStandIn t = false := by
    intro t ht
    simp only [List.mem_cons, List.not_mem_nil, or_false] at ht
    rcases ht with rfl | rfl <;> kernel_rfl
  exact hall t hm

theorem proved : Rows.FieldBytesCardSaid :=
  Claim7.holds_tied_plain_at .later [] _ _ _ _ said (fun _ h => by cases h) (by kernel_rfl) (fun _ h => by cases h) fieldBytes_row_tie rfl ⟨rfl, rfl⟩ (by kernel_rfl) rfl plain (by kernel_rfl)
end lawFieldBytes
end Go.Proofs.YtgkofpfjbjnhfaaDoor
