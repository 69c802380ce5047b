/- The law OpcodeAnswers: any answer's bytes, that are parsed to it; of any bytes the answer, or what is wrong; numbers as bytes. -/
import Derived.Test.YtdieaegajahdpaaOpc4
import Derived.Test.YtdieaegajahdpaaFreeG
import Derived.Test.YtdieaegajahdpaaOpcOpen
import Derived.Laws.Strings
namespace Go.Proofs.Ytdieaegajahdpaa
open Go.ChangeShapes Go.WideShapes Go.ChangeAt Go.RowKit
set_option linter.unusedVariables false
set_option linter.unusedSimpArgs false

theorem ansErr_bytes (q : AnsS) : ansErr (ansBytes q) = 0 ∧ ansGot (ansBytes q) = q := by
  cases q
  simp [ansErr, ansGot, ansBytes]

theorem ans_cat (q : AnsS) : ((⟨#[96]⟩ : ByteArray) ++ strOf [q.op, q.result] ++ strOf q.data).toList = ansBytes q := by
  rw [Go.ByteArray.toList_eq]
  simp [ansBytes]
theorem ans_ok {b : List UInt8} (h : ansErr b = 0) : ansBytes (ansGot b) = b := by
  match b, h with
  | [], h => cases h
  | [_], h => cases h
  | [_, _], h => cases h
  | x :: y :: z :: t, h =>
    by_cases hx : x = 96
    · simp [ansGot, ansBytes, hx]
    · simp [ansErr, hx] at h
theorem ansErr_short {b : List UInt8} (h : b.length < 3) : ansErr b = 18 := by
  match b, h with
  | [], _ => rfl
  | [_], _ => rfl
  | [_, _], _ => rfl
theorem ansErr_get {b : List UInt8} (h : 3 ≤ b.length) : ansErr b = if b[0]'(by omega) = 96 then 0 else 7 := by
  match b, h with
  | x :: y :: z :: t, _ => rfl
theorem ans_no {b : List UInt8} (h : ansErr b ≠ 0) : ansGot b = zeroA := by
  match b, h with
  | [], h => rfl
  | [_], h => rfl
  | [_, _], h => rfl
  | x :: y :: z :: t, h =>
    by_cases hx : x = 96
    · simp [ansErr, hx] at h
    · simp [ansGot, hx]

set_option maxRecDepth 100000 in
set_option maxHeartbeats 16000000 in
theorem walk_OpcodeAnswers (w : World) (q : AnsS) (dv : Value) (hd : IsBytes w dv q.data) (v : Value) (b : List UInt8) (hb : IsBytes w v b) (u : Value) (l : List Nat) (hl : IsWords w u l) :
    Calls Try.prog 7 #[.agg (respCells q dv), v, u] w fun e w' => e = .returned (.bool true) ∧ Below w.heap.size w w' := by
  have hua := Try.underlying58
  have hsa : (Try.prog.info? 58).map (·.size) = some 3 := by kernel_rfl
  have Hd := hide hd
  have Hb := hide hb
  have Hl := hide hl
  obtain ⟨da, dc, rfl, hdc, hdm, _, _⟩ := hd
  obtain ⟨ba, bc, rfl, hbc, hbm, _, _⟩ := hb
  obtain ⟨la, lc, rfl, hlc, hlm, _, _, _⟩ := hl
  unfold maxLen at hdm hbm hlm
  have hbox := heap_alloc_new w (.cells (respCells q (.slice da q.data.length dc)) 58)
  rcases (show 300 < q.data.length ∨ (q.data.length ≤ 300 ∧ 300 < b.length) ∨ (q.data.length ≤ 300 ∧ b.length ≤ 300 ∧ 50 < l.length) ∨ (q.data.length ≤ 300 ∧ b.length ≤ 300 ∧ l.length ≤ 50) by omega) with h1 | ⟨h1, h2⟩ | ⟨h1, h2, h3⟩ | ⟨h1, h2, h3⟩
  · go_enter Try.func7, Try.ntmps7
    go_wp2_with fail
    refine (lives16_any _).mono ?_
    rintro e w1 ⟨rfl, hb1⟩
    obtain ⟨_, _, c2⟩ := respBox ((hb1.block w.heap.size (by simp)).trans hbox)
    have HB1 := hide (Below.trans alloc1 (hb1.mono (by simp)))
    clear hb1 hbox hsa hua
    go_wp2_with fail
    refine (lives16_any _).mono ?_
    rintro e w2 ⟨rfl, hb2⟩
    go_wp2
    go_ret
    exact ⟨rfl, HB1.out.trans (hb2.mono HB1.out.size)⟩
  · go_enter Try.func7, Try.ntmps7
    go_wp2_with fail
    refine (lives16_any _).mono ?_
    rintro e w1 ⟨rfl, hb1⟩
    obtain ⟨_, _, c2⟩ := respBox ((hb1.block w.heap.size (by simp)).trans hbox)
    have HB1 := hide (Below.trans alloc1 (hb1.mono (by simp)))
    clear hb1 hbox hsa hua
    go_wp2_with fail
    refine (lives16_any _).mono ?_
    rintro e w2 ⟨rfl, hb2⟩
    go_wp2
    go_ret
    exact ⟨rfl, HB1.out.trans (hb2.mono HB1.out.size)⟩
  · go_enter Try.func7, Try.ntmps7
    go_wp2_with fail
    refine (lives16_any _).mono ?_
    rintro e w1 ⟨rfl, hb1⟩
    obtain ⟨_, _, c2⟩ := respBox ((hb1.block w.heap.size (by simp)).trans hbox)
    have HB1 := hide (Below.trans alloc1 (hb1.mono (by simp)))
    clear hb1 hbox hsa hua
    go_wp2_with fail
    refine (lives16_any _).mono ?_
    rintro e w2 ⟨rfl, hb2⟩
    go_wp2
    go_ret
    exact ⟨rfl, HB1.out.trans (hb2.mono HB1.out.size)⟩
  · have hu := Try.underlying23
    have hu8 := Try.underlying5
    have hstr := Try.underlying9
    go_enter Try.func7, Try.ntmps7
    go_wp2_with fail
    refine (lives16_any _).mono ?_
    rintro e w1 ⟨rfl, hb1⟩
    have H1 := hide (((on_all w).alloc (.cells (respCells q (.slice da q.data.length dc)) 58)).below hb1)
    have Hs1 := hide (((Str.refl w).alloc (.cells (respCells q (.slice da q.data.length dc)) 58)).trans (Str.below hb1))
    clear hb1 hbox
    have hgR := on_blk_mul H1.out
    obtain ⟨_, _, c2⟩ := respBox hgR
    have hE := aencode_any q _ w1 (Hd.out.below (all_below H1.out.right Hs1.out)) (by omega)
    go_wp2_with (refine wpList_load_row rfl _ _ rfl w.heap.size rfl _ (respCells q _) _ _ hgR hua rfl hsa ?_)
    refine hE.mono ?_
    clear hE
    rintro e w2 ⟨cv, rfl, hc2, hs2⟩
    have H2 := hide (on_all_to hc2 H1.out)
    have Hs2 := hide (Hs1.out.trans hs2)
    obtain ⟨ca, cc, rfl, _, _, hcl, _⟩ := own_value hc2
    obtain ⟨r0, r1, r2⟩ := respBox (on_blk_mul H2.out.right)
    have hB2 := all_below H2.out.right.right Hs2.out
    have k1 := run_string_of (P := Try.prog) (w := w2) (c := cc) hu hu8 hcl _ hstr
    have hv2 : (vbs [q.op, q.result]).toArray = #[vb q.op, vb q.result] := rfl
    have hb3 := IsBytes.new w2 [q.op, q.result] (by simp [maxLen]) 5
    rw [hv2] at hb3
    obtain ⟨_, _, e3, _, _, hl3, _⟩ := hb3
    simp only [Value.slice.injEq] at e3
    obtain ⟨rfl, _, rfl⟩ := e3
    have k2 := run_string_of (P := Try.prog) (c := 2) hu hu8 hl3 _ hstr
    simp only [List.length_cons, List.length_nil, Nat.zero_add, Nat.reduceAdd] at k2
    obtain ⟨_, _, e4, _, _, hl4, _⟩ := (Hd.out.below hB2).below (alloc1 (o := .cells #[vb q.op, vb q.result] 5))
    simp only [Value.slice.injEq] at e4
    obtain ⟨rfl, _, rfl⟩ := e4
    have k3 := run_string_of (P := Try.prog) (c := dc) hu hu8 hl4 _ hstr
    obtain ⟨r0', r1', r2'⟩ := respBox ((alloc1 (w := w2) (o := .cells #[vb q.op, vb q.result] 5)).block _ (Array.getElem?_eq_some_iff.1 (on_blk_mul H2.out.right)).1 |>.trans (on_blk_mul H2.out.right))
    clear hc2 hs2 hcl H1 Hs1 hl3 hl4 hv2 hgR c2 hB2
    have hcat : (ansBytes q == ((⟨#[96]⟩ : ByteArray) ++ strOf [q.op, q.result] ++ strOf q.data).toList) = true := by rw [ans_cat]; simp
    have H3 := hide (H2.out.alloc' (.cells #[vb q.op, vb q.result] 5))
    have Hs3 := hide (Hs2.out.alloc (.cells #[vb q.op, vb q.result] 5))
    have hA := answered_any _ (ansBytes q) _ (own_bytes H3.out) (by simp [ansBytes]; omega)
    unfold AnsEnd at hA
    rw [(ansErr_bytes q).1, (ansErr_bytes q).2] at hA
    clear H2 Hs2
    generalize hab : ansBytes q = abq at *
    clear hab
    go_wp2_with fail
    refine hA.mono ?_
    clear hA hcat k1 k2 k3 r0 r1 r2 r0' r1' r2'
    rintro e w4 ⟨dv1, rfl, hd1, hs4⟩
    have h4 := on_all_to hd1 H3.out
    obtain ⟨a1, c1, rfl, _, _, _, _⟩ := own_value hd1
    have hs4' := Hs3.out.trans hs4
    have hr4 := heap_alloc_new w4 (.cells za 58)
    have h5 := (h4.alloc (.cells za 58)).setRow (respCells q (.slice a1 q.data.length c1))
    have hs5 := (hs4'.alloc (.cells za 58)).setRow w4.heap.size (respCells q (.slice a1 q.data.length c1))
    clear hd1 hs4 h4 hs4' H3 Hs3
    generalize hW5 : (w4.alloc (.cells za 58)).setRow w4.heap.size (respCells q (.slice a1 q.data.length c1)) = w5 at *
    have HW5 := hide hW5
    clear hW5
    have hA := answered_any _ b w5 (Hb.out.below (all_below h5.right.right.right.right hs5)) (by omega)
    have H5 := hide h5
    have Hs5 := hide hs5
    clear h5 hs5
    go_wp2_with (refine wpList_store_row rfl _ _ _ rfl w4.heap.size (respCells q _) rfl rfl _ _ hr4 hsa (za_size _ _) (resp_one _ _ _ _) ?_; rw [HW5.out])
    refine hA.mono ?_
    clear hA hr4 HW5
    rintro e w6 ⟨dv2, rfl, hd2, hs6⟩
    have h6 := on_all_to hd2 H5.out
    obtain ⟨a2, c2, rfl, _, _, _, _⟩ := own_value hd2
    have hs6' := Hs5.out.trans hs6
    have hr6 := heap_alloc_new w6 (.cells za 58)
    have h7 := (h6.alloc (.cells za 58)).setRow (respCells (ansGot b) (.slice a2 (ansGot b).data.length c2))
    have hs7 := (hs6'.alloc (.cells za 58)).setRow w6.heap.size (respCells (ansGot b) (.slice a2 (ansGot b).data.length c2))
    clear hd2 hs6 h6 hs6' H5 Hs5
    generalize hW7 : (w6.alloc (.cells za 58)).setRow w6.heap.size (respCells (ansGot b) (.slice a2 (ansGot b).data.length c2)) = w7 at *
    have HW7 := hide hW7
    clear hW7
    have H7 := hide h7
    have Hs7 := hide hs7
    have GT := hide (on_blk_mul h7)
    have Hi2 := hide (own_bytes h7.right)
    have HbX := hide (Hb.out.below (all_below h7.right.right.right.right.right.right hs7))
    clear h7 hs7
    have Hno := hide (@ans_no b)
    have Hyes := hide (@ans_ok b)
    have Herr := hide (show ansErr b = ansErr b from rfl)
    rcases (show b.length < 3 ∨ 3 ≤ b.length by omega) with hb3 | hb3
    · have hz : ansErr b = 18 := ansErr_short hb3
      have hG := Hno.out (by rw [hz]; decide)
      rw [hz]
      rw [hG] at H7 GT Hi2 HW7 ⊢
      have G0 : Hid (∀ X, Stay w7 X → X.cell? ⟨w6.heap.size, 0, Option.none⟩ = some (Value.int .u8 0)) := hide fun X hT => cell_of_row _ _ 0 _ _ _ ((hT.block _ (Array.getElem?_eq_some_iff.1 GT.out).1).trans GT.out)
      have G1 : Hid (∀ X, Stay w7 X → X.cell? ⟨w6.heap.size, 1, Option.none⟩ = some (Value.int .u8 0)) := hide fun X hT => cell_of_row _ _ 1 _ _ _ ((hT.block _ (Array.getElem?_eq_some_iff.1 GT.out).1).trans GT.out)
      have G2 : Hid (∀ X, Stay w7 X → X.cell? ⟨w6.heap.size, 2, Option.none⟩ = some (.slice a2 0 c2)) := hide fun X hT => cell_of_row _ _ 2 _ _ _ ((hT.block _ (Array.getElem?_eq_some_iff.1 GT.out).1).trans GT.out)
      clear hz hG Hno Hyes Herr
      go_wp2_with (refine wpList_store_row rfl _ _ _ rfl w6.heap.size (respCells zeroA _) rfl rfl _ _ hr6 hsa (za_size _ _) (resp_one _ _ _ _) ?_; rw [HW7.out])
      refine wp_region_vsg [isV (.int .i64 18), isV (.int .i64 18), isV (.bool false), isV (.bool false), isV (.int .i64 18), isV (.bool false), isV (.bool false), isV (undef), isV (undef), isV (undef), isV (undef), isV (undef), isV (undef), isV (.bool false), isV (.bool false), isV (.bool false), isV (.int .i64 18), isV (.bool true), isV (.bool true), isV (.pointer (some ⟨w6.heap.size, 0, Option.none⟩)), isV (.int .u8 0), isV (.bool false), isV (.bool false), isV (.pointer (some ⟨w6.heap.size, 1, Option.none⟩)), isV (.int .u8 0), isV (.bool false), isV (.bool false), isV (.bool false), isV (.pointer (some ⟨w6.heap.size, 2, Option.none⟩)), isV (.slice a2 0 c2), isV (.int .i64 0), isV (.bool false), isV (.bool false), isV (.bool false), isV (.bool false)]
        (by kernel_rfl) (by kernel_rfl) rfl ?keep ?todo ?rest
      case keep => exact ⟨Keep.isV _, Keep.isV _, Keep.isV _, Keep.isV _, Keep.isV _, Keep.isV _, Keep.isV _, Keep.isV _, Keep.isV _, Keep.isV _, Keep.isV _, Keep.isV _, Keep.isV _, Keep.isV _, Keep.isV _, Keep.isV _, Keep.isV _, Keep.isV _, Keep.isV _, Keep.isV _, Keep.isV _, Keep.isV _, Keep.isV _, Keep.isV _, Keep.isV _, Keep.isV _, Keep.isV _, Keep.isV _, Keep.isV _, Keep.isV _, Keep.isV _, Keep.isV _, Keep.isV _, Keep.isV _, Keep.isV _, trivial⟩
      case todo =>
        refine ⟨?_, ?_, ?_, ?_, ?_, ?_, ?_, ?_, ?_, ?_, ?_, ?_, ?_, ?_, ?_, ?_, ?_, ?_, ?_, ?_, ?_, ?_, ?_, ?_, ?_, ?_, ?_, ?_, ?_, ?_, ?_, ?_, ?_, ?_, ?_, trivial⟩
        · intro ev X hT hb hk hf
          have e0 : ev (.tmp 11) = .int .i64 18 := hk.1
          exact OpOk.move rfl e0 ⟨rfl, Stay.refl _⟩
        · intro ev X hT hb hk hf
          have e0 : ev (.tmp 12) = .int .i64 18 := hk.1
          exact OpOk.move rfl e0 ⟨rfl, Stay.refl _⟩
        · intro ev X hT hb hk hf
          have e0 : ev (.tmp 70) = .int .i64 18 := hf.1
          have e1 : ev (.tmp 71) = .int .i64 18 := hf.2.1
          exact OpOk.run (v := .bool false) (W' := X) (by simp [execOp, e0, e1, hb.1, go_sem]) ⟨rfl, Stay.refl _⟩
        · intro ev X hT hb hk hf
          have e0 : ev (.tmp 72) = .bool false := hf.1
          exact OpOk.move rfl e0 ⟨rfl, Stay.refl _⟩
        · intro ev X hT hb hk hf
          refine .inl ⟨false, hf.1, fun _ => ?_, fun h => (h rfl).elim⟩
          have e0 : ev (.tmp 11) = .int .i64 18 := hk.1
          exact OpOk.move rfl e0 ⟨rfl, Stay.refl _⟩
        · intro ev X hT hb hk hf
          refine .inl ⟨false, hf.2.1, fun _ => ?_, fun h => (h rfl).elim⟩
          have e0 : ev (.tmp 74) = .int .i64 18 := hf.1
          exact OpOk.run (v := .bool false) (W' := X) (by simp [execOp, e0, hb.1, go_sem]) ⟨rfl, Stay.refl _⟩
        · intro ev X hT hb hk hf
          refine .inl ⟨false, hf.2.1, fun _ => ?_, fun h => (h rfl).elim⟩
          have e0 : ev (.tmp 75) = .bool false := hf.1
          exact OpOk.move rfl e0 ⟨rfl, Stay.refl _⟩
        · exact fun ev X hT hb hk hf => .inl ⟨false, hf.1, fun h => (nomatch h), fun _ => rfl⟩
        · exact fun ev X hT hb hk hf => .inl ⟨false, hf.2.1, fun h => (nomatch h), fun _ => rfl⟩
        · exact fun ev X hT hb hk hf => .inl ⟨false, hf.2.1, fun h => (nomatch h), fun _ => rfl⟩
        · exact fun ev X hT hb hk hf => .inl ⟨false, hf.1, fun h => (nomatch h), fun _ => rfl⟩
        · exact fun ev X hT hb hk hf => .inl ⟨false, hf.2.1, fun h => (nomatch h), fun _ => rfl⟩
        · exact fun ev X hT hb hk hf => .inl ⟨false, hf.2.2.1, fun h => (nomatch h), fun _ => rfl⟩
        · intro ev X hT hb hk hf
          refine .inl ⟨false, hf.2.2.1, fun _ => ?_, fun h => (h rfl).elim⟩
          have e0 : ev (.tmp 76) = .bool false := hf.1
          have e1 : ev (.tmp 82) = undef := hf.2.1
          exact OpOk.run (v := .bool false) (W' := X) (by simp [execOp, e0, e1, hb, hb.1, hb.2.1, hb.2.2, go_sem]) ⟨rfl, Stay.refl _⟩
        · intro ev X hT hb hk hf
          have e0 : ev (.tmp 73) = .bool false := hf.1
          have e1 : ev (.tmp 83) = .bool false := hf.2.1
          exact OpOk.run (v := .bool false) (W' := X) (by simp [execOp, e0, e1, hb, hb.1, hb.2.1, hb.2.2, go_sem]) ⟨rfl, Stay.refl _⟩
        · intro ev X hT hb hk hf
          have e0 : ev (.tmp 84) = .bool false := hf.1
          exact OpOk.move rfl e0 ⟨rfl, Stay.refl _⟩
        · intro ev X hT hb hk hf
          refine .inl ⟨false, hf.1, fun _ => ?_, fun h => (h rfl).elim⟩
          have e0 : ev (.tmp 11) = .int .i64 18 := hk.1
          exact OpOk.move rfl e0 ⟨rfl, Stay.refl _⟩
        · intro ev X hT hb hk hf
          refine .inl ⟨false, hf.2.1, fun _ => ?_, fun h => (h rfl).elim⟩
          have e0 : ev (.tmp 86) = .int .i64 18 := hf.1
          exact OpOk.run (v := .bool true) (W' := X) (by simp [execOp, e0, hb.1, go_sem]) ⟨rfl, Stay.refl _⟩
        · intro ev X hT hb hk hf
          refine .inl ⟨false, hf.2.1, fun _ => ?_, fun h => (h rfl).elim⟩
          have e0 : ev (.tmp 87) = .bool true := hf.1
          exact OpOk.move rfl e0 ⟨rfl, Stay.refl _⟩
        · intro ev X hT hb hk hf
          refine .inl ⟨true, hf.1, fun _ => ?_, fun h => (h rfl).elim⟩
          have e0 : ev (.tmp 10) = .pointer (some ⟨w6.heap.size, 0, Option.none⟩) := hk.1
          exact OpOk.run (v := .pointer (some ⟨w6.heap.size, 0, Option.none⟩)) (W' := X) (by simp [execOp, e0, hb.1, go_sem]) ⟨rfl, Stay.refl _⟩
        · intro ev X hT hb hk hf
          refine .inl ⟨true, hf.2.1, fun _ => ?_, fun h => (h rfl).elim⟩
          have e0 : ev (.tmp 89) = .pointer (some ⟨w6.heap.size, 0, Option.none⟩) := hf.1
          have cW := G0.out X hT
          exact OpOk.run (v := .int .u8 0) (W' := X) (by simp [execOp, e0, cW, go_sem]) ⟨rfl, Stay.refl _⟩
        · intro ev X hT hb hk hf
          refine .inl ⟨true, hf.2.1, fun _ => ?_, fun h => (h rfl).elim⟩
          have e0 : ev (.tmp 90) = .int .u8 0 := hf.1
          exact OpOk.run (v := .bool false) (W' := X) (by simp [execOp, e0, hb.1, go_sem]) ⟨rfl, Stay.refl _⟩
        · intro ev X hT hb hk hf
          refine .inl ⟨true, hf.2.1, fun _ => ?_, fun h => (h rfl).elim⟩
          have e0 : ev (.tmp 91) = .bool false := hf.1
          exact OpOk.move rfl e0 ⟨rfl, Stay.refl _⟩
        · intro ev X hT hb hk hf
          refine .inl ⟨false, hf.1, fun _ => ?_, fun h => (h rfl).elim⟩
          have e0 : ev (.tmp 10) = .pointer (some ⟨w6.heap.size, 0, Option.none⟩) := hk.1
          exact OpOk.run (v := .pointer (some ⟨w6.heap.size, 1, Option.none⟩)) (W' := X) (by simp [execOp, e0, hb.1, go_sem]) ⟨rfl, Stay.refl _⟩
        · intro ev X hT hb hk hf
          refine .inl ⟨false, hf.2.1, fun _ => ?_, fun h => (h rfl).elim⟩
          have e0 : ev (.tmp 93) = .pointer (some ⟨w6.heap.size, 1, Option.none⟩) := hf.1
          have cW := G1.out X hT
          exact OpOk.run (v := .int .u8 0) (W' := X) (by simp [execOp, e0, cW, go_sem]) ⟨rfl, Stay.refl _⟩
        · intro ev X hT hb hk hf
          refine .inl ⟨false, hf.2.1, fun _ => ?_, fun h => (h rfl).elim⟩
          have e0 : ev (.tmp 94) = .int .u8 0 := hf.1
          exact OpOk.run (v := .bool false) (W' := X) (by simp [execOp, e0, hb.1, go_sem]) ⟨rfl, Stay.refl _⟩
        · intro ev X hT hb hk hf
          refine .inl ⟨true, hf.2.2.1, fun _ => ?_, fun h => (h rfl).elim⟩
          have e0 : ev (.tmp 92) = .bool false := hf.1
          have e1 : ev (.tmp 95) = .bool false := hf.2.1
          exact OpOk.run (v := .bool false) (W' := X) (by simp [execOp, e0, e1, hb, hb.1, hb.2.1, hb.2.2, go_sem]) ⟨rfl, Stay.refl _⟩
        · intro ev X hT hb hk hf
          refine .inl ⟨true, hf.2.2.1, fun _ => ?_, fun h => (h rfl).elim⟩
          have e0 : ev (.tmp 96) = .bool false := hf.1
          exact OpOk.move rfl e0 ⟨rfl, Stay.refl _⟩
        · intro ev X hT hb hk hf
          refine .inl ⟨false, hf.1, fun _ => ?_, fun h => (h rfl).elim⟩
          have e0 : ev (.tmp 10) = .pointer (some ⟨w6.heap.size, 0, Option.none⟩) := hk.1
          exact OpOk.run (v := .pointer (some ⟨w6.heap.size, 2, Option.none⟩)) (W' := X) (by simp [execOp, e0, hb.1, go_sem]) ⟨rfl, Stay.refl _⟩
        · intro ev X hT hb hk hf
          refine .inl ⟨false, hf.2.1, fun _ => ?_, fun h => (h rfl).elim⟩
          have e0 : ev (.tmp 98) = .pointer (some ⟨w6.heap.size, 2, Option.none⟩) := hf.1
          have cW := G2.out X hT
          exact OpOk.run (v := .slice a2 0 c2) (W' := X) (by simp [execOp, e0, cW, go_sem]) ⟨rfl, Stay.refl _⟩
        · intro ev X hT hb hk hf
          refine .inl ⟨false, hf.2.1, fun _ => ?_, fun h => (h rfl).elim⟩
          have e0 : ev (.tmp 99) = .slice a2 0 c2 := hf.1
          exact OpOk.run (v := .int .i64 0) (W' := X) (by simp [execOp, e0, hb.1, go_sem]) ⟨rfl, Stay.refl _⟩
        · intro ev X hT hb hk hf
          refine .inl ⟨false, hf.2.1, fun _ => ?_, fun h => (h rfl).elim⟩
          have e0 : ev (.tmp 100) = .int .i64 0 := hf.1
          exact OpOk.run (v := .bool false) (W' := X) (by simp [execOp, e0, hb.1, go_sem]) ⟨rfl, Stay.refl _⟩
        · intro ev X hT hb hk hf
          refine .inl ⟨true, hf.2.2.1, fun _ => ?_, fun h => (h rfl).elim⟩
          have e0 : ev (.tmp 97) = .bool false := hf.1
          have e1 : ev (.tmp 101) = .bool false := hf.2.1
          exact OpOk.run (v := .bool false) (W' := X) (by simp [execOp, e0, e1, hb, hb.1, hb.2.1, hb.2.2, go_sem]) ⟨rfl, Stay.refl _⟩
        · intro ev X hT hb hk hf
          refine .inl ⟨false, hf.2.2.1, fun _ => ?_, fun h => (h rfl).elim⟩
          have e0 : ev (.tmp 88) = .bool true := hf.1
          have e1 : ev (.tmp 102) = .bool false := hf.2.1
          exact OpOk.run (v := .bool false) (W' := X) (by simp [execOp, e0, e1, hb, hb.1, hb.2.1, hb.2.2, go_sem]) ⟨rfl, Stay.refl _⟩
        · intro ev X hT hb hk hf
          have e0 : ev (.tmp 85) = .bool false := hf.1
          have e1 : ev (.tmp 103) = .bool false := hf.2.1
          exact OpOk.run (v := .bool false) (W' := X) (by simp [execOp, e0, e1, hb, hb.1, hb.2.1, hb.2.2, go_sem]) ⟨rfl, Stay.refl _⟩
      case rest =>
        intro X hT
        rintro v - v - v - v - v - v - v - v - v - v - v - v - v - v - v - v - v - v - v - v - v - v - v - v - v - v - v - v - v - v - v - v - v - v - _ rfl
        have H8 := hide (H7.out.below hT)
        have Hs8 := hide (Hs7.out.trans (Str.below hT))
        clear hT H7 Hs7 hr6 HW7
        go_wp2
        refine Rest.done ?_
        go_wp2_with fail
        have H9 := hide (own_nil 5 1 H8.out)
        go_loopw [13, 107] (fun v i wr => ∃ k : Nat, k ≤ l.length ∧ i = .int .i64 k ∧ (ownR v (numsB (l.take k)) * (blk w6.heap.size (.cells (respCells zeroA (.slice a2 zeroA.data.length c2)) 58 (0, 0)) * (ownR (.slice a2 zeroA.data.length c2) zeroA.data * (blk w4.heap.size (.cells (respCells q (.slice a1 q.data.length c1)) 58 (0, 0)) * (ownR (.slice a1 q.data.length c1) q.data * (ownR (.slice ca abq.length cc) abq * (blk w.heap.size (.cells (respCells q (.slice da q.data.length dc)) 58 (0, 0)) * all w))))))).on wr ∧ Str w wr) (fun _ i _ => l.length - (intOf i).toNat)
        case atStart => exact ⟨0, by omega, rfl, H9.out, Hs8.out⟩
        case round =>
          obtain ⟨k, hk, rfl, how, hstr2⟩ := hrel
          by_cases hlt : k < l.length
          · have hB := all_below how.right.right.right.right.right.right.right hstr2
            obtain ⟨_, _, e1, _, _, hll, _, hn⟩ := Hl.out.below hB
            simp only [Value.slice.injEq] at e1
            obtain ⟨e11, _, e12⟩ := e1
            subst e11 e12
            obtain ⟨lg, lo, rfl⟩ := hll.isAddr k (by simpa using hlt)
            have cl := Lay.cell hll k (show (l.map u32v)[k]? = some (u32v l[k]) by simp [hlt])
            have HS := hide (numsB_take l k hlt)
            have hn1 := hn l[k] (List.getElem_mem hlt)
            have hl2 : (numsB (l.take k)).length ≤ 200 := by rw [numsB_len, List.length_take]; omega
            generalize l[k] = n at *
            generalize numsB (l.take k) = acc at *
            obtain ⟨oa, oc, rfl, _, _, _, _⟩ := own_value how
            have How := hide how
            have Hstr2 := hide hstr2
            have hk0 : (0 : Int) ≤ (k : Int) := by omega
            have hkl : (k : Int) < (l.length : Int) := by omega
            clear how hstr2 hll hn hB
            go_wp2_with fail
            refine (rword_any n hn1 wr).mono ?_
            rintro e wq ⟨vq, rfl, hq, hsq⟩
            have Hnq := hide (own_bytes hq)
            have Hpq := hide (SP.on.below How.out (all_below hq.right hsq))
            have Htq := hide (Hstr2.out.trans hsq)
            obtain ⟨dq, eq, rfl, _, _, _, _⟩ := own_value hq
            clear hq hsq
            go_wp2_with (at_builtin; refine wpList_append_bytes (F := (blk w6.heap.size (.cells (respCells zeroA (.slice a2 zeroA.data.length c2)) 58 (0, 0)) * (ownR (.slice a2 zeroA.data.length c2) zeroA.data * (blk w4.heap.size (.cells (respCells q (.slice a1 q.data.length c1)) 58 (0, 0)) * (ownR (.slice a1 q.data.length c1) q.data * (ownR (.slice ca abq.length cc) abq * (blk w.heap.size (.cells (respCells q (.slice da q.data.length dc)) 58 (0, 0)) * all w))))))) rfl _ _ 23 rfl 5 hu infoR _ acc (wordB n) rfl Hpq.out _ rfl Hnq.out (by simp [wordB_len]; omega) ?_; intro v2 wz ho2 hs2; rw [← HS.out] at ho2)
            exact ⟨⟨k + 1, by omega, by simp, ho2, Htq.out.trans hs2⟩, by simp [intOf]; omega⟩
          · obtain rfl : k = l.length := by omega
            rw [List.take_length] at how
            obtain ⟨va, vc, rfl, _, _, hl3, _⟩ := own_value how
            obtain ⟨a0, a1', a2'⟩ := respBox (on_blk_mul how.right.right.right)
            obtain ⟨b0, b1, b2⟩ := respBox (on_blk_mul how.right.right.right.right.right.right)
            have hB := all_below how.right.right.right.right.right.right.right hstr2
            obtain ⟨_, _, ex, _, _, hl1, _⟩ := own_value how.right.right.right.right
            simp only [Value.slice.injEq] at ex
            obtain ⟨rfl, _, rfl⟩ := ex
            obtain ⟨_, _, ex, _, _, hl2, _⟩ := Hd.out.below hB
            simp only [Value.slice.injEq] at ex
            obtain ⟨rfl, _, rfl⟩ := ex
            have Lw := hide (Hl.out.below hB)
            have L1 := hide hl1
            have L2 := hide hl2
            have L3 := hide hl3
            have st {p : Addr} {u : Value} (h : wr.cell? p = some u) : ∀ X, Stay wr X → X.cell? p = some u := fun X hT => (hT.cell (p := p) (World.block_lt_of_cell? wr _ h)).trans h
            have A0 := hide (st a0)
            have A1 := hide (st a1')
            have A2 := hide (st a2')
            have B0 := hide (st b0)
            have B1 := hide (st b1)
            have B2 := hide (st b2)
            have HB := hide hB
            clear st a0 a1' a2' b0 b1 b2 hB hl1 hl2 hl3 how hlt hk H8 H9
            go_wp2_with fail
            refine wp_region_vsg [isV (.int .i64 0), isV (.bool true), isV (.bool true), isV (.pointer (some ⟨w4.heap.size, 0, Option.none⟩)), isV (vb q.op), isV (.pointer (some ⟨w.heap.size, 0, Option.none⟩)), isV (vb q.op), isV (.bool true), isV (.bool true), isV (.bool true), isV (.pointer (some ⟨w4.heap.size, 1, Option.none⟩)), isV (vb q.result), isV (.pointer (some ⟨w.heap.size, 1, Option.none⟩)), isV (vb q.result), isV (.bool true), isV (.bool true), isV (.bool true), isV (.pointer (some ⟨w4.heap.size, 2, Option.none⟩)), isV (.slice a1 q.data.length c1), isV (.string (strOf q.data)), isV (.pointer (some ⟨w.heap.size, 2, Option.none⟩)), isV (.slice da q.data.length dc), isV (.string (strOf q.data)), isV (.bool true), isV (.bool true), isV (.bool true), isV (.slice la l.length lc), (fun v X => IsBytes X v (numsB l)), isV (.string (strOf (numsB l))), isV (.slice va (numsB l).length vc), isV (.string (strOf (numsB l))), isV (.bool true), isV (.bool true), isV (.bool true)]
              (by kernel_rfl) (by kernel_rfl) rfl ?keep ?todo ?rest
            case keep => exact ⟨Keep.isV _, Keep.isV _, Keep.isV _, Keep.isV _, Keep.isV _, Keep.isV _, Keep.isV _, Keep.isV _, Keep.isV _, Keep.isV _, Keep.isV _, Keep.isV _, Keep.isV _, Keep.isV _, Keep.isV _, Keep.isV _, Keep.isV _, Keep.isV _, Keep.isV _, Keep.isV _, Keep.isV _, Keep.isV _, Keep.isV _, Keep.isV _, Keep.isV _, Keep.isV _, Keep.isV _, fun _ _ _ h k => IsBytes.below h k, Keep.isV _, Keep.isV _, Keep.isV _, Keep.isV _, Keep.isV _, Keep.isV _, trivial⟩
            case todo =>
              refine ⟨?_, ?_, ?_, ?_, ?_, ?_, ?_, ?_, ?_, ?_, ?_, ?_, ?_, ?_, ?_, ?_, ?_, ?_, ?_, ?_, ?_, ?_, ?_, ?_, ?_, ?_, ?_, ?_, ?_, ?_, ?_, ?_, ?_, ?_, trivial⟩
              · intro ev X hT hb hk hf
                have e0 : ev (.tmp 9) = .int .i64 0 := hk.1
                exact OpOk.move rfl e0 ⟨rfl, Stay.refl _⟩
              · intro ev X hT hb hk hf
                have e0 : ev (.tmp 116) = .int .i64 0 := hf.1
                exact OpOk.run (v := .bool true) (W' := X) (by simp [execOp, e0, hb.1, go_sem]) ⟨rfl, Stay.refl _⟩
              · intro ev X hT hb hk hf
                have e0 : ev (.tmp 117) = .bool true := hf.1
                exact OpOk.move rfl e0 ⟨rfl, Stay.refl _⟩
              · intro ev X hT hb hk hf
                refine .inl ⟨true, hf.1, fun _ => ?_, fun h => (h rfl).elim⟩
                have e0 : ev (.tmp 8) = .pointer (some ⟨w4.heap.size, 0, Option.none⟩) := hk.1
                exact OpOk.run (v := .pointer (some ⟨w4.heap.size, 0, Option.none⟩)) (W' := X) (by simp [execOp, e0, hb.1, go_sem]) ⟨rfl, Stay.refl _⟩
              · intro ev X hT hb hk hf
                refine .inl ⟨true, hf.2.1, fun _ => ?_, fun h => (h rfl).elim⟩
                have e0 : ev (.tmp 119) = .pointer (some ⟨w4.heap.size, 0, Option.none⟩) := hf.1
                have cW := A0.out X hT
                exact OpOk.run (v := vb q.op) (W' := X) (by simp [execOp, e0, cW, go_sem]) ⟨rfl, Stay.refl _⟩
              · intro ev X hT hb hk hf
                refine .inl ⟨true, hf.1, fun _ => ?_, fun h => (h rfl).elim⟩
                have e0 : ev (.tmp 3) = .pointer (some ⟨w.heap.size, 0, Option.none⟩) := hk.1
                exact OpOk.run (v := .pointer (some ⟨w.heap.size, 0, Option.none⟩)) (W' := X) (by simp [execOp, e0, hb.1, go_sem]) ⟨rfl, Stay.refl _⟩
              · intro ev X hT hb hk hf
                refine .inl ⟨true, hf.2.1, fun _ => ?_, fun h => (h rfl).elim⟩
                have e0 : ev (.tmp 121) = .pointer (some ⟨w.heap.size, 0, Option.none⟩) := hf.1
                have cW := B0.out X hT
                exact OpOk.run (v := vb q.op) (W' := X) (by simp [execOp, e0, cW, go_sem]) ⟨rfl, Stay.refl _⟩
              · intro ev X hT hb hk hf
                refine .inl ⟨true, hf.2.2.1, fun _ => ?_, fun h => (h rfl).elim⟩
                have e0 : ev (.tmp 120) = vb q.op := hf.1
                have e1 : ev (.tmp 122) = vb q.op := hf.2.1
                exact OpOk.run (v := .bool true) (W' := X) (by simp [execOp, e0, e1, hb.1, go_sem]) ⟨rfl, Stay.refl _⟩
              · intro ev X hT hb hk hf
                have e0 : ev (.tmp 118) = .bool true := hf.1
                have e1 : ev (.tmp 123) = .bool true := hf.2.1
                exact OpOk.run (v := .bool true) (W' := X) (by simp [execOp, e0, e1, hb, hb.1, hb.2.1, hb.2.2, go_sem]) ⟨rfl, Stay.refl _⟩
              · intro ev X hT hb hk hf
                have e0 : ev (.tmp 124) = .bool true := hf.1
                exact OpOk.move rfl e0 ⟨rfl, Stay.refl _⟩
              · intro ev X hT hb hk hf
                refine .inl ⟨true, hf.1, fun _ => ?_, fun h => (h rfl).elim⟩
                have e0 : ev (.tmp 8) = .pointer (some ⟨w4.heap.size, 0, Option.none⟩) := hk.1
                exact OpOk.run (v := .pointer (some ⟨w4.heap.size, 1, Option.none⟩)) (W' := X) (by simp [execOp, e0, hb.1, go_sem]) ⟨rfl, Stay.refl _⟩
              · intro ev X hT hb hk hf
                refine .inl ⟨true, hf.2.1, fun _ => ?_, fun h => (h rfl).elim⟩
                have e0 : ev (.tmp 126) = .pointer (some ⟨w4.heap.size, 1, Option.none⟩) := hf.1
                have cW := A1.out X hT
                exact OpOk.run (v := vb q.result) (W' := X) (by simp [execOp, e0, cW, go_sem]) ⟨rfl, Stay.refl _⟩
              · intro ev X hT hb hk hf
                refine .inl ⟨true, hf.1, fun _ => ?_, fun h => (h rfl).elim⟩
                have e0 : ev (.tmp 3) = .pointer (some ⟨w.heap.size, 0, Option.none⟩) := hk.1
                exact OpOk.run (v := .pointer (some ⟨w.heap.size, 1, Option.none⟩)) (W' := X) (by simp [execOp, e0, hb.1, go_sem]) ⟨rfl, Stay.refl _⟩
              · intro ev X hT hb hk hf
                refine .inl ⟨true, hf.2.1, fun _ => ?_, fun h => (h rfl).elim⟩
                have e0 : ev (.tmp 128) = .pointer (some ⟨w.heap.size, 1, Option.none⟩) := hf.1
                have cW := B1.out X hT
                exact OpOk.run (v := vb q.result) (W' := X) (by simp [execOp, e0, cW, go_sem]) ⟨rfl, Stay.refl _⟩
              · intro ev X hT hb hk hf
                refine .inl ⟨true, hf.2.2.1, fun _ => ?_, fun h => (h rfl).elim⟩
                have e0 : ev (.tmp 127) = vb q.result := hf.1
                have e1 : ev (.tmp 129) = vb q.result := hf.2.1
                exact OpOk.run (v := .bool true) (W' := X) (by simp [execOp, e0, e1, hb.1, go_sem]) ⟨rfl, Stay.refl _⟩
              · intro ev X hT hb hk hf
                have e0 : ev (.tmp 125) = .bool true := hf.1
                have e1 : ev (.tmp 130) = .bool true := hf.2.1
                exact OpOk.run (v := .bool true) (W' := X) (by simp [execOp, e0, e1, hb, hb.1, hb.2.1, hb.2.2, go_sem]) ⟨rfl, Stay.refl _⟩
              · intro ev X hT hb hk hf
                have e0 : ev (.tmp 131) = .bool true := hf.1
                exact OpOk.move rfl e0 ⟨rfl, Stay.refl _⟩
              · intro ev X hT hb hk hf
                refine .inl ⟨true, hf.1, fun _ => ?_, fun h => (h rfl).elim⟩
                have e0 : ev (.tmp 8) = .pointer (some ⟨w4.heap.size, 0, Option.none⟩) := hk.1
                exact OpOk.run (v := .pointer (some ⟨w4.heap.size, 2, Option.none⟩)) (W' := X) (by simp [execOp, e0, hb.1, go_sem]) ⟨rfl, Stay.refl _⟩
              · intro ev X hT hb hk hf
                refine .inl ⟨true, hf.2.1, fun _ => ?_, fun h => (h rfl).elim⟩
                have e0 : ev (.tmp 133) = .pointer (some ⟨w4.heap.size, 2, Option.none⟩) := hf.1
                have cW := A2.out X hT
                exact OpOk.run (v := .slice a1 q.data.length c1) (W' := X) (by simp [execOp, e0, cW, go_sem]) ⟨rfl, Stay.refl _⟩
              · intro ev X hT hb hk hf
                refine .inl ⟨true, hf.2.1, fun _ => ?_, fun h => (h rfl).elim⟩
                have e0 : ev (.tmp 134) = .slice a1 q.data.length c1 := hf.1
                exact OpOk.convert rfl e0 (run_string_of hu hu8 (L1.out.below hT) _ hstr) ⟨rfl, Stay.refl _⟩
              · intro ev X hT hb hk hf
                refine .inl ⟨true, hf.1, fun _ => ?_, fun h => (h rfl).elim⟩
                have e0 : ev (.tmp 3) = .pointer (some ⟨w.heap.size, 0, Option.none⟩) := hk.1
                exact OpOk.run (v := .pointer (some ⟨w.heap.size, 2, Option.none⟩)) (W' := X) (by simp [execOp, e0, hb.1, go_sem]) ⟨rfl, Stay.refl _⟩
              · intro ev X hT hb hk hf
                refine .inl ⟨true, hf.2.1, fun _ => ?_, fun h => (h rfl).elim⟩
                have e0 : ev (.tmp 136) = .pointer (some ⟨w.heap.size, 2, Option.none⟩) := hf.1
                have cW := B2.out X hT
                exact OpOk.run (v := .slice da q.data.length dc) (W' := X) (by simp [execOp, e0, cW, go_sem]) ⟨rfl, Stay.refl _⟩
              · intro ev X hT hb hk hf
                refine .inl ⟨true, hf.2.1, fun _ => ?_, fun h => (h rfl).elim⟩
                have e0 : ev (.tmp 137) = .slice da q.data.length dc := hf.1
                exact OpOk.convert rfl e0 (run_string_of hu hu8 (L2.out.below hT) _ hstr) ⟨rfl, Stay.refl _⟩
              · intro ev X hT hb hk hf
                refine .inl ⟨true, hf.2.2.1, fun _ => ?_, fun h => (h rfl).elim⟩
                have e0 : ev (.tmp 135) = .string (strOf q.data) := hf.1
                have e1 : ev (.tmp 138) = .string (strOf q.data) := hf.2.1
                exact OpOk.run (v := .bool true) (W' := X) (by simp [execOp, e0, e1, hb.1, go_sem]) ⟨rfl, Stay.refl _⟩
              · intro ev X hT hb hk hf
                have e0 : ev (.tmp 132) = .bool true := hf.1
                have e1 : ev (.tmp 139) = .bool true := hf.2.1
                exact OpOk.run (v := .bool true) (W' := X) (by simp [execOp, e0, e1, hb, hb.1, hb.2.1, hb.2.2, go_sem]) ⟨rfl, Stay.refl _⟩
              · intro ev X hT hb hk hf
                have e0 : ev (.tmp 140) = .bool true := hf.1
                exact OpOk.move rfl e0 ⟨rfl, Stay.refl _⟩
              · intro ev X hT hb hk hf
                refine .inl ⟨true, hf.1, fun _ => ?_, fun h => (h rfl).elim⟩
                have e0 : ev (.tmp 2) = .slice la l.length lc := hk.1
                exact OpOk.move rfl e0 ⟨rfl, Stay.refl _⟩
              · intro ev X hT hb hk hf
                refine .inl ⟨true, hf.2.1, fun _ => ?_, fun h => (h rfl).elim⟩
                have e0 : ev (.tmp 142) = .slice la l.length lc := hf.1
                refine OpOk.enters (f := 27) (args := #[.slice la l.length lc]) (W' := X) (by simp [execOp, resolve, invoke, e0, hb.2.1, go_sem]) ((numbers_any _ l X (Lw.out.below hT) (by omega)).mono ?_)
                rintro e X2 ⟨v', rfl, h4, h5⟩
                exact ⟨_, rfl, own_bytes h4, all_below h4.right h5⟩
              · intro ev X hT hb hk hf
                refine .inl ⟨true, hf.2.1, fun _ => ?_, fun h => (h rfl).elim⟩
                have e0 := hf.1
                have e0' : IsBytes X (ev (.tmp 143)) (numsB l) := e0
                obtain ⟨xa, xc, ex, _, _, hlx, _⟩ := e0'
                exact OpOk.convert rfl ex (run_string_of hu hu8 hlx _ hstr) ⟨rfl, Stay.refl _⟩
              · intro ev X hT hb hk hf
                refine .inl ⟨true, hf.1, fun _ => ?_, fun h => (h rfl).elim⟩
                have e0 : ev (.tmp 13) = .slice va (numsB l).length vc := hk.1
                exact OpOk.move rfl e0 ⟨rfl, Stay.refl _⟩
              · intro ev X hT hb hk hf
                refine .inl ⟨true, hf.2.1, fun _ => ?_, fun h => (h rfl).elim⟩
                have e0 : ev (.tmp 145) = .slice va (numsB l).length vc := hf.1
                exact OpOk.convert rfl e0 (run_string_of hu hu8 (L3.out.below hT) _ hstr) ⟨rfl, Stay.refl _⟩
              · intro ev X hT hb hk hf
                refine .inl ⟨true, hf.2.2.1, fun _ => ?_, fun h => (h rfl).elim⟩
                have e0 : ev (.tmp 144) = .string (strOf (numsB l)) := hf.1
                have e1 : ev (.tmp 146) = .string (strOf (numsB l)) := hf.2.1
                exact OpOk.run (v := .bool true) (W' := X) (by simp [execOp, e0, e1, hb.1, go_sem]) ⟨rfl, Stay.refl _⟩
              · intro ev X hT hb hk hf
                have e0 : ev (.tmp 141) = .bool true := hf.1
                have e1 : ev (.tmp 147) = .bool true := hf.2.1
                exact OpOk.run (v := .bool true) (W' := X) (by simp [execOp, e0, e1, hb, hb.1, hb.2.1, hb.2.2, go_sem]) ⟨rfl, Stay.refl _⟩
              · intro ev X hT hb hk hf
                have e0 : ev (.tmp 148) = .bool true := hf.1
                exact OpOk.assign rfl e0 ⟨rfl, Stay.refl _⟩
            case rest =>
              intro X hT
              rintro v - v - v - v - v - v - v - v - v - v - v - v - v - v - v - v - v - v - v - v - v - v - v - v - v - v - v - v - v - v - v - v - v - _ rfl
              have HX := hide (HB.out.trans (hT.mono HB.out.size))
              clear hT
              go_wp2
              refine Rest.done ?_
              go_wp2_with fail
              go_ret
              exact ⟨rfl, HX.out⟩
    · have hz := ansErr_get hb3
      obtain ⟨_, _, ex, _, _, hlx, _⟩ := HbX.out
      simp only [Value.slice.injEq] at ex
      obtain ⟨rfl, _, rfl⟩ := ex
      obtain ⟨bg, bo, rfl⟩ := hlx.isAddr 0 (by simp; omega)
      have c0 := Lay.cell hlx 0 (vbs_get b 0 (by omega))
      rw [Nat.add_zero] at c0
      generalize b[0]'(by omega) = x at *
      clear hlx
      by_cases hx : x = 96
      · rw [if_pos hx] at hz
        have HGb := hide (Hyes.out hz)
        rw [hz]
        have c0' : w7.cell? ⟨bg, bo, Option.none⟩ = some (Value.int .u8 96) := by rw [c0, hx]; rfl
        have HGl : Hid ((ansGot b).data.length ≤ 300) := hide (by have h := congrArg List.length (Hyes.out hz); simp [ansBytes] at h; omega)
        clear hz hx c0 Hno Hyes Herr
        go_wp2_with (refine wpList_store_row rfl _ _ _ rfl w6.heap.size (respCells (ansGot b) _) rfl rfl _ _ hr6 hsa (za_size _ _) (resp_one _ _ _ _) ?_; rw [HW7.out])
        refine wp_region_vsg [isV (.int .i64 0), isV (.int .i64 0), isV (.bool false), isV (.bool false), isV (.int .i64 0), isV (.bool true), isV (.bool true), isV (.agg (respCells (ansGot b) (.slice a2 (ansGot b).data.length c2))), (fun v X => IsBytes X v b), isV (.string (strOf b)), isV (.slice (some ⟨bg, bo, Option.none⟩) b.length bc), isV (.string (strOf b)), isV (.bool false), isV (.bool false), isV (.bool false), isV (.bool false), isV (.int .i64 0), isV (.bool false), isV (.bool false), isV (undef), isV (undef), isV (undef), isV (undef), isV (undef), isV (undef), isV (undef), isV (undef), isV (undef), isV (undef), isV (undef), isV (undef), isV (undef), isV (undef), isV (.bool false), isV (.bool false)]
          (by kernel_rfl) (by kernel_rfl) rfl ?keep ?todo ?rest
        case keep => exact ⟨Keep.isV _, Keep.isV _, Keep.isV _, Keep.isV _, Keep.isV _, Keep.isV _, Keep.isV _, Keep.isV _, fun _ _ _ h k => IsBytes.below h k, Keep.isV _, Keep.isV _, Keep.isV _, Keep.isV _, Keep.isV _, Keep.isV _, Keep.isV _, Keep.isV _, Keep.isV _, Keep.isV _, Keep.isV _, Keep.isV _, Keep.isV _, Keep.isV _, Keep.isV _, Keep.isV _, Keep.isV _, Keep.isV _, Keep.isV _, Keep.isV _, Keep.isV _, Keep.isV _, Keep.isV _, Keep.isV _, Keep.isV _, Keep.isV _, trivial⟩
        case todo =>
          refine ⟨?_, ?_, ?_, ?_, ?_, ?_, ?_, ?_, ?_, ?_, ?_, ?_, ?_, ?_, ?_, ?_, ?_, ?_, ?_, ?_, ?_, ?_, ?_, ?_, ?_, ?_, ?_, ?_, ?_, ?_, ?_, ?_, ?_, ?_, ?_, trivial⟩
          · intro ev X hT hb hk hf
            have e0 : ev (.tmp 11) = .int .i64 0 := hk.1
            exact OpOk.move rfl e0 ⟨rfl, Stay.refl _⟩
          · intro ev X hT hb hk hf
            have e0 : ev (.tmp 12) = .int .i64 0 := hk.1
            exact OpOk.move rfl e0 ⟨rfl, Stay.refl _⟩
          · intro ev X hT hb hk hf
            have e0 : ev (.tmp 70) = .int .i64 0 := hf.1
            have e1 : ev (.tmp 71) = .int .i64 0 := hf.2.1
            exact OpOk.run (v := .bool false) (W' := X) (by simp [execOp, e0, e1, hb.1, go_sem]) ⟨rfl, Stay.refl _⟩
          · intro ev X hT hb hk hf
            have e0 : ev (.tmp 72) = .bool false := hf.1
            exact OpOk.move rfl e0 ⟨rfl, Stay.refl _⟩
          · intro ev X hT hb hk hf
            refine .inl ⟨false, hf.1, fun _ => ?_, fun h => (h rfl).elim⟩
            have e0 : ev (.tmp 11) = .int .i64 0 := hk.1
            exact OpOk.move rfl e0 ⟨rfl, Stay.refl _⟩
          · intro ev X hT hb hk hf
            refine .inl ⟨false, hf.2.1, fun _ => ?_, fun h => (h rfl).elim⟩
            have e0 : ev (.tmp 74) = .int .i64 0 := hf.1
            exact OpOk.run (v := .bool true) (W' := X) (by simp [execOp, e0, hb.1, go_sem]) ⟨rfl, Stay.refl _⟩
          · intro ev X hT hb hk hf
            refine .inl ⟨false, hf.2.1, fun _ => ?_, fun h => (h rfl).elim⟩
            have e0 : ev (.tmp 75) = .bool true := hf.1
            exact OpOk.move rfl e0 ⟨rfl, Stay.refl _⟩
          · intro ev X hT hb hk hf
            refine .inl ⟨true, hf.1, fun _ => ?_, fun h => (h rfl).elim⟩
            have e0 : ev (.tmp 10) = .pointer (some ⟨w6.heap.size, 0, Option.none⟩) := hk.1
            exact OpOk.load_row _ _ rfl _ e0 _ (respCells (ansGot b) (.slice a2 (ansGot b).data.length c2)) (0, 0) _ ((hT.block _ (Array.getElem?_eq_some_iff.1 GT.out).1).trans GT.out) hua rfl hsa ⟨rfl, Stay.refl _⟩
          · intro ev X hT hb hk hf
            refine .inl ⟨true, hf.2.1, fun _ => ?_, fun h => (h rfl).elim⟩
            have e0 : ev (.tmp 77) = .agg (respCells (ansGot b) (.slice a2 (ansGot b).data.length c2)) := hf.1
            refine OpOk.enters (f := 24) (args := #[.agg (respCells (ansGot b) (.slice a2 (ansGot b).data.length c2))]) (W' := X) (by simp [execOp, resolve, invoke, e0, hb.2.1, go_sem]) ((aencode_any (ansGot b) _ X (Hi2.out.below hT) (by have := HGl.out; omega)).mono ?_)
            rintro e X2 ⟨v', rfl, h4, h5⟩
            rw [HGb.out] at h4
            exact ⟨_, rfl, own_bytes h4, all_below h4.right h5⟩
          · intro ev X hT hb hk hf
            refine .inl ⟨true, hf.2.1, fun _ => ?_, fun h => (h rfl).elim⟩
            have e0 := hf.1
            have e0' : IsBytes X (ev (.tmp 78)) b := e0
            obtain ⟨xa, xc, ex, _, _, hlx, _⟩ := e0'
            exact OpOk.convert rfl ex (run_string_of hu hu8 hlx _ hstr) ⟨rfl, Stay.refl _⟩
          · intro ev X hT hb hk hf
            refine .inl ⟨true, hf.1, fun _ => ?_, fun h => (h rfl).elim⟩
            have e0 : ev (.tmp 1) = .slice (some ⟨bg, bo, Option.none⟩) b.length bc := hk.1
            exact OpOk.move rfl e0 ⟨rfl, Stay.refl _⟩
          · intro ev X hT hb hk hf
            refine .inl ⟨true, hf.2.1, fun _ => ?_, fun h => (h rfl).elim⟩
            have e0 : ev (.tmp 80) = .slice (some ⟨bg, bo, Option.none⟩) b.length bc := hf.1
            obtain ⟨_, _, ex, _, _, hlx, _⟩ := HbX.out.below hT
            simp only [Value.slice.injEq] at ex
            obtain ⟨rfl, _, rfl⟩ := ex
            exact OpOk.convert rfl e0 (run_string_of hu hu8 hlx _ hstr) ⟨rfl, Stay.refl _⟩
          · intro ev X hT hb hk hf
            refine .inl ⟨true, hf.2.2.1, fun _ => ?_, fun h => (h rfl).elim⟩
            have e0 : ev (.tmp 79) = .string (strOf b) := hf.1
            have e1 : ev (.tmp 81) = .string (strOf b) := hf.2.1
            exact OpOk.run (v := .bool false) (W' := X) (by simp [execOp, e0, e1, hb.1, go_sem]) ⟨rfl, Stay.refl _⟩
          · intro ev X hT hb hk hf
            refine .inl ⟨false, hf.2.2.1, fun _ => ?_, fun h => (h rfl).elim⟩
            have e0 : ev (.tmp 76) = .bool true := hf.1
            have e1 : ev (.tmp 82) = .bool false := hf.2.1
            exact OpOk.run (v := .bool false) (W' := X) (by simp [execOp, e0, e1, hb, hb.1, hb.2.1, hb.2.2, go_sem]) ⟨rfl, Stay.refl _⟩
          · intro ev X hT hb hk hf
            have e0 : ev (.tmp 73) = .bool false := hf.1
            have e1 : ev (.tmp 83) = .bool false := hf.2.1
            exact OpOk.run (v := .bool false) (W' := X) (by simp [execOp, e0, e1, hb, hb.1, hb.2.1, hb.2.2, go_sem]) ⟨rfl, Stay.refl _⟩
          · intro ev X hT hb hk hf
            have e0 : ev (.tmp 84) = .bool false := hf.1
            exact OpOk.move rfl e0 ⟨rfl, Stay.refl _⟩
          · intro ev X hT hb hk hf
            refine .inl ⟨false, hf.1, fun _ => ?_, fun h => (h rfl).elim⟩
            have e0 : ev (.tmp 11) = .int .i64 0 := hk.1
            exact OpOk.move rfl e0 ⟨rfl, Stay.refl _⟩
          · intro ev X hT hb hk hf
            refine .inl ⟨false, hf.2.1, fun _ => ?_, fun h => (h rfl).elim⟩
            have e0 : ev (.tmp 86) = .int .i64 0 := hf.1
            exact OpOk.run (v := .bool false) (W' := X) (by simp [execOp, e0, hb.1, go_sem]) ⟨rfl, Stay.refl _⟩
          · intro ev X hT hb hk hf
            refine .inl ⟨false, hf.2.1, fun _ => ?_, fun h => (h rfl).elim⟩
            have e0 : ev (.tmp 87) = .bool false := hf.1
            exact OpOk.move rfl e0 ⟨rfl, Stay.refl _⟩
          · exact fun ev X hT hb hk hf => .inl ⟨false, hf.1, fun h => (nomatch h), fun _ => rfl⟩
          · exact fun ev X hT hb hk hf => .inl ⟨false, hf.2.1, fun h => (nomatch h), fun _ => rfl⟩
          · exact fun ev X hT hb hk hf => .inl ⟨false, hf.2.1, fun h => (nomatch h), fun _ => rfl⟩
          · exact fun ev X hT hb hk hf => .inl ⟨false, hf.2.1, fun h => (nomatch h), fun _ => rfl⟩
          · exact fun ev X hT hb hk hf => .inr ⟨hf.1, rfl⟩
          · exact fun ev X hT hb hk hf => .inr ⟨hf.2.1, rfl⟩
          · exact fun ev X hT hb hk hf => .inr ⟨hf.2.1, rfl⟩
          · exact fun ev X hT hb hk hf => .inl ⟨false, hf.2.2.1, fun h => (nomatch h), fun _ => rfl⟩
          · exact fun ev X hT hb hk hf => .inl ⟨false, hf.2.2.1, fun h => (nomatch h), fun _ => rfl⟩
          · exact fun ev X hT hb hk hf => .inr ⟨hf.1, rfl⟩
          · exact fun ev X hT hb hk hf => .inr ⟨hf.2.1, rfl⟩
          · exact fun ev X hT hb hk hf => .inr ⟨hf.2.1, rfl⟩
          · exact fun ev X hT hb hk hf => .inr ⟨hf.2.1, rfl⟩
          · exact fun ev X hT hb hk hf => .inl ⟨false, hf.2.2.1, fun h => (nomatch h), fun _ => rfl⟩
          · intro ev X hT hb hk hf
            refine .inl ⟨false, hf.2.2.1, fun _ => ?_, fun h => (h rfl).elim⟩
            have e0 : ev (.tmp 88) = .bool false := hf.1
            have e1 : ev (.tmp 102) = undef := hf.2.1
            exact OpOk.run (v := .bool false) (W' := X) (by simp [execOp, e0, e1, hb, hb.1, hb.2.1, hb.2.2, go_sem]) ⟨rfl, Stay.refl _⟩
          · intro ev X hT hb hk hf
            have e0 : ev (.tmp 85) = .bool false := hf.1
            have e1 : ev (.tmp 103) = .bool false := hf.2.1
            exact OpOk.run (v := .bool false) (W' := X) (by simp [execOp, e0, e1, hb, hb.1, hb.2.1, hb.2.2, go_sem]) ⟨rfl, Stay.refl _⟩
        case rest =>
          intro X hT
          rintro v - v - v - v - v - v - v - v - v - v - v - v - v - v - v - v - v - v - v - v - v - v - v - v - v - v - v - v - v - v - v - v - v - v - _ rfl
          have H8 := hide (H7.out.below hT)
          have Hs8 := hide (Hs7.out.trans (Str.below hT))
          clear hT H7 Hs7 hr6 HW7
          go_wp2
          refine Rest.done ?_
          go_wp2_with fail
          have H9 := hide (own_nil 5 1 H8.out)
          go_loopw [13, 107] (fun v i wr => ∃ k : Nat, k ≤ l.length ∧ i = .int .i64 k ∧ (ownR v (numsB (l.take k)) * (blk w6.heap.size (.cells (respCells (ansGot b) (.slice a2 (ansGot b).data.length c2)) 58 (0, 0)) * (ownR (.slice a2 (ansGot b).data.length c2) (ansGot b).data * (blk w4.heap.size (.cells (respCells q (.slice a1 q.data.length c1)) 58 (0, 0)) * (ownR (.slice a1 q.data.length c1) q.data * (ownR (.slice ca abq.length cc) abq * (blk w.heap.size (.cells (respCells q (.slice da q.data.length dc)) 58 (0, 0)) * all w))))))).on wr ∧ Str w wr) (fun _ i _ => l.length - (intOf i).toNat)
          case atStart => exact ⟨0, by omega, rfl, H9.out, Hs8.out⟩
          case round =>
            obtain ⟨k, hk, rfl, how, hstr2⟩ := hrel
            by_cases hlt : k < l.length
            · have hB := all_below how.right.right.right.right.right.right.right hstr2
              obtain ⟨_, _, e1, _, _, hll, _, hn⟩ := Hl.out.below hB
              simp only [Value.slice.injEq] at e1
              obtain ⟨e11, _, e12⟩ := e1
              subst e11 e12
              obtain ⟨lg, lo, rfl⟩ := hll.isAddr k (by simpa using hlt)
              have cl := Lay.cell hll k (show (l.map u32v)[k]? = some (u32v l[k]) by simp [hlt])
              have HS := hide (numsB_take l k hlt)
              have hn1 := hn l[k] (List.getElem_mem hlt)
              have hl2 : (numsB (l.take k)).length ≤ 200 := by rw [numsB_len, List.length_take]; omega
              generalize l[k] = n at *
              generalize numsB (l.take k) = acc at *
              obtain ⟨oa, oc, rfl, _, _, _, _⟩ := own_value how
              have How := hide how
              have Hstr2 := hide hstr2
              have hk0 : (0 : Int) ≤ (k : Int) := by omega
              have hkl : (k : Int) < (l.length : Int) := by omega
              clear how hstr2 hll hn hB
              go_wp2_with fail
              refine (rword_any n hn1 wr).mono ?_
              rintro e wq ⟨vq, rfl, hq, hsq⟩
              have Hnq := hide (own_bytes hq)
              have Hpq := hide (SP.on.below How.out (all_below hq.right hsq))
              have Htq := hide (Hstr2.out.trans hsq)
              obtain ⟨dq, eq, rfl, _, _, _, _⟩ := own_value hq
              clear hq hsq
              go_wp2_with (at_builtin; refine wpList_append_bytes (F := (blk w6.heap.size (.cells (respCells (ansGot b) (.slice a2 (ansGot b).data.length c2)) 58 (0, 0)) * (ownR (.slice a2 (ansGot b).data.length c2) (ansGot b).data * (blk w4.heap.size (.cells (respCells q (.slice a1 q.data.length c1)) 58 (0, 0)) * (ownR (.slice a1 q.data.length c1) q.data * (ownR (.slice ca abq.length cc) abq * (blk w.heap.size (.cells (respCells q (.slice da q.data.length dc)) 58 (0, 0)) * all w))))))) rfl _ _ 23 rfl 5 hu infoR _ acc (wordB n) rfl Hpq.out _ rfl Hnq.out (by simp [wordB_len]; omega) ?_; intro v2 wz ho2 hs2; rw [← HS.out] at ho2)
              exact ⟨⟨k + 1, by omega, by simp, ho2, Htq.out.trans hs2⟩, by simp [intOf]; omega⟩
            · obtain rfl : k = l.length := by omega
              rw [List.take_length] at how
              obtain ⟨va, vc, rfl, _, _, hl3, _⟩ := own_value how
              obtain ⟨a0, a1', a2'⟩ := respBox (on_blk_mul how.right.right.right)
              obtain ⟨b0, b1, b2⟩ := respBox (on_blk_mul how.right.right.right.right.right.right)
              have hB := all_below how.right.right.right.right.right.right.right hstr2
              obtain ⟨_, _, ex, _, _, hl1, _⟩ := own_value how.right.right.right.right
              simp only [Value.slice.injEq] at ex
              obtain ⟨rfl, _, rfl⟩ := ex
              obtain ⟨_, _, ex, _, _, hl2, _⟩ := Hd.out.below hB
              simp only [Value.slice.injEq] at ex
              obtain ⟨rfl, _, rfl⟩ := ex
              have Lw := hide (Hl.out.below hB)
              have L1 := hide hl1
              have L2 := hide hl2
              have L3 := hide hl3
              have st {p : Addr} {u : Value} (h : wr.cell? p = some u) : ∀ X, Stay wr X → X.cell? p = some u := fun X hT => (hT.cell (p := p) (World.block_lt_of_cell? wr _ h)).trans h
              have A0 := hide (st a0)
              have A1 := hide (st a1')
              have A2 := hide (st a2')
              have B0 := hide (st b0)
              have B1 := hide (st b1)
              have B2 := hide (st b2)
              have HB := hide hB
              clear st a0 a1' a2' b0 b1 b2 hB hl1 hl2 hl3 how hlt hk H8 H9
              go_wp2_with fail
              refine wp_region_vsg [isV (.int .i64 0), isV (.bool true), isV (.bool true), isV (.pointer (some ⟨w4.heap.size, 0, Option.none⟩)), isV (vb q.op), isV (.pointer (some ⟨w.heap.size, 0, Option.none⟩)), isV (vb q.op), isV (.bool true), isV (.bool true), isV (.bool true), isV (.pointer (some ⟨w4.heap.size, 1, Option.none⟩)), isV (vb q.result), isV (.pointer (some ⟨w.heap.size, 1, Option.none⟩)), isV (vb q.result), isV (.bool true), isV (.bool true), isV (.bool true), isV (.pointer (some ⟨w4.heap.size, 2, Option.none⟩)), isV (.slice a1 q.data.length c1), isV (.string (strOf q.data)), isV (.pointer (some ⟨w.heap.size, 2, Option.none⟩)), isV (.slice da q.data.length dc), isV (.string (strOf q.data)), isV (.bool true), isV (.bool true), isV (.bool true), isV (.slice la l.length lc), (fun v X => IsBytes X v (numsB l)), isV (.string (strOf (numsB l))), isV (.slice va (numsB l).length vc), isV (.string (strOf (numsB l))), isV (.bool true), isV (.bool true), isV (.bool true)]
                (by kernel_rfl) (by kernel_rfl) rfl ?keep ?todo ?rest
              case keep => exact ⟨Keep.isV _, Keep.isV _, Keep.isV _, Keep.isV _, Keep.isV _, Keep.isV _, Keep.isV _, Keep.isV _, Keep.isV _, Keep.isV _, Keep.isV _, Keep.isV _, Keep.isV _, Keep.isV _, Keep.isV _, Keep.isV _, Keep.isV _, Keep.isV _, Keep.isV _, Keep.isV _, Keep.isV _, Keep.isV _, Keep.isV _, Keep.isV _, Keep.isV _, Keep.isV _, Keep.isV _, fun _ _ _ h k => IsBytes.below h k, Keep.isV _, Keep.isV _, Keep.isV _, Keep.isV _, Keep.isV _, Keep.isV _, trivial⟩
              case todo =>
                refine ⟨?_, ?_, ?_, ?_, ?_, ?_, ?_, ?_, ?_, ?_, ?_, ?_, ?_, ?_, ?_, ?_, ?_, ?_, ?_, ?_, ?_, ?_, ?_, ?_, ?_, ?_, ?_, ?_, ?_, ?_, ?_, ?_, ?_, ?_, trivial⟩
                · intro ev X hT hb hk hf
                  have e0 : ev (.tmp 9) = .int .i64 0 := hk.1
                  exact OpOk.move rfl e0 ⟨rfl, Stay.refl _⟩
                · intro ev X hT hb hk hf
                  have e0 : ev (.tmp 116) = .int .i64 0 := hf.1
                  exact OpOk.run (v := .bool true) (W' := X) (by simp [execOp, e0, hb.1, go_sem]) ⟨rfl, Stay.refl _⟩
                · intro ev X hT hb hk hf
                  have e0 : ev (.tmp 117) = .bool true := hf.1
                  exact OpOk.move rfl e0 ⟨rfl, Stay.refl _⟩
                · intro ev X hT hb hk hf
                  refine .inl ⟨true, hf.1, fun _ => ?_, fun h => (h rfl).elim⟩
                  have e0 : ev (.tmp 8) = .pointer (some ⟨w4.heap.size, 0, Option.none⟩) := hk.1
                  exact OpOk.run (v := .pointer (some ⟨w4.heap.size, 0, Option.none⟩)) (W' := X) (by simp [execOp, e0, hb.1, go_sem]) ⟨rfl, Stay.refl _⟩
                · intro ev X hT hb hk hf
                  refine .inl ⟨true, hf.2.1, fun _ => ?_, fun h => (h rfl).elim⟩
                  have e0 : ev (.tmp 119) = .pointer (some ⟨w4.heap.size, 0, Option.none⟩) := hf.1
                  have cW := A0.out X hT
                  exact OpOk.run (v := vb q.op) (W' := X) (by simp [execOp, e0, cW, go_sem]) ⟨rfl, Stay.refl _⟩
                · intro ev X hT hb hk hf
                  refine .inl ⟨true, hf.1, fun _ => ?_, fun h => (h rfl).elim⟩
                  have e0 : ev (.tmp 3) = .pointer (some ⟨w.heap.size, 0, Option.none⟩) := hk.1
                  exact OpOk.run (v := .pointer (some ⟨w.heap.size, 0, Option.none⟩)) (W' := X) (by simp [execOp, e0, hb.1, go_sem]) ⟨rfl, Stay.refl _⟩
                · intro ev X hT hb hk hf
                  refine .inl ⟨true, hf.2.1, fun _ => ?_, fun h => (h rfl).elim⟩
                  have e0 : ev (.tmp 121) = .pointer (some ⟨w.heap.size, 0, Option.none⟩) := hf.1
                  have cW := B0.out X hT
                  exact OpOk.run (v := vb q.op) (W' := X) (by simp [execOp, e0, cW, go_sem]) ⟨rfl, Stay.refl _⟩
                · intro ev X hT hb hk hf
                  refine .inl ⟨true, hf.2.2.1, fun _ => ?_, fun h => (h rfl).elim⟩
                  have e0 : ev (.tmp 120) = vb q.op := hf.1
                  have e1 : ev (.tmp 122) = vb q.op := hf.2.1
                  exact OpOk.run (v := .bool true) (W' := X) (by simp [execOp, e0, e1, hb.1, go_sem]) ⟨rfl, Stay.refl _⟩
                · intro ev X hT hb hk hf
                  have e0 : ev (.tmp 118) = .bool true := hf.1
                  have e1 : ev (.tmp 123) = .bool true := hf.2.1
                  exact OpOk.run (v := .bool true) (W' := X) (by simp [execOp, e0, e1, hb, hb.1, hb.2.1, hb.2.2, go_sem]) ⟨rfl, Stay.refl _⟩
                · intro ev X hT hb hk hf
                  have e0 : ev (.tmp 124) = .bool true := hf.1
                  exact OpOk.move rfl e0 ⟨rfl, Stay.refl _⟩
                · intro ev X hT hb hk hf
                  refine .inl ⟨true, hf.1, fun _ => ?_, fun h => (h rfl).elim⟩
                  have e0 : ev (.tmp 8) = .pointer (some ⟨w4.heap.size, 0, Option.none⟩) := hk.1
                  exact OpOk.run (v := .pointer (some ⟨w4.heap.size, 1, Option.none⟩)) (W' := X) (by simp [execOp, e0, hb.1, go_sem]) ⟨rfl, Stay.refl _⟩
                · intro ev X hT hb hk hf
                  refine .inl ⟨true, hf.2.1, fun _ => ?_, fun h => (h rfl).elim⟩
                  have e0 : ev (.tmp 126) = .pointer (some ⟨w4.heap.size, 1, Option.none⟩) := hf.1
                  have cW := A1.out X hT
                  exact OpOk.run (v := vb q.result) (W' := X) (by simp [execOp, e0, cW, go_sem]) ⟨rfl, Stay.refl _⟩
                · intro ev X hT hb hk hf
                  refine .inl ⟨true, hf.1, fun _ => ?_, fun h => (h rfl).elim⟩
                  have e0 : ev (.tmp 3) = .pointer (some ⟨w.heap.size, 0, Option.none⟩) := hk.1
                  exact OpOk.run (v := .pointer (some ⟨w.heap.size, 1, Option.none⟩)) (W' := X) (by simp [execOp, e0, hb.1, go_sem]) ⟨rfl, Stay.refl _⟩
                · intro ev X hT hb hk hf
                  refine .inl ⟨true, hf.2.1, fun _ => ?_, fun h => (h rfl).elim⟩
                  have e0 : ev (.tmp 128) = .pointer (some ⟨w.heap.size, 1, Option.none⟩) := hf.1
                  have cW := B1.out X hT
                  exact OpOk.run (v := vb q.result) (W' := X) (by simp [execOp, e0, cW, go_sem]) ⟨rfl, Stay.refl _⟩
                · intro ev X hT hb hk hf
                  refine .inl ⟨true, hf.2.2.1, fun _ => ?_, fun h => (h rfl).elim⟩
                  have e0 : ev (.tmp 127) = vb q.result := hf.1
                  have e1 : ev (.tmp 129) = vb q.result := hf.2.1
                  exact OpOk.run (v := .bool true) (W' := X) (by simp [execOp, e0, e1, hb.1, go_sem]) ⟨rfl, Stay.refl _⟩
                · intro ev X hT hb hk hf
                  have e0 : ev (.tmp 125) = .bool true := hf.1
                  have e1 : ev (.tmp 130) = .bool true := hf.2.1
                  exact OpOk.run (v := .bool true) (W' := X) (by simp [execOp, e0, e1, hb, hb.1, hb.2.1, hb.2.2, go_sem]) ⟨rfl, Stay.refl _⟩
                · intro ev X hT hb hk hf
                  have e0 : ev (.tmp 131) = .bool true := hf.1
                  exact OpOk.move rfl e0 ⟨rfl, Stay.refl _⟩
                · intro ev X hT hb hk hf
                  refine .inl ⟨true, hf.1, fun _ => ?_, fun h => (h rfl).elim⟩
                  have e0 : ev (.tmp 8) = .pointer (some ⟨w4.heap.size, 0, Option.none⟩) := hk.1
                  exact OpOk.run (v := .pointer (some ⟨w4.heap.size, 2, Option.none⟩)) (W' := X) (by simp [execOp, e0, hb.1, go_sem]) ⟨rfl, Stay.refl _⟩
                · intro ev X hT hb hk hf
                  refine .inl ⟨true, hf.2.1, fun _ => ?_, fun h => (h rfl).elim⟩
                  have e0 : ev (.tmp 133) = .pointer (some ⟨w4.heap.size, 2, Option.none⟩) := hf.1
                  have cW := A2.out X hT
                  exact OpOk.run (v := .slice a1 q.data.length c1) (W' := X) (by simp [execOp, e0, cW, go_sem]) ⟨rfl, Stay.refl _⟩
                · intro ev X hT hb hk hf
                  refine .inl ⟨true, hf.2.1, fun _ => ?_, fun h => (h rfl).elim⟩
                  have e0 : ev (.tmp 134) = .slice a1 q.data.length c1 := hf.1
                  exact OpOk.convert rfl e0 (run_string_of hu hu8 (L1.out.below hT) _ hstr) ⟨rfl, Stay.refl _⟩
                · intro ev X hT hb hk hf
                  refine .inl ⟨true, hf.1, fun _ => ?_, fun h => (h rfl).elim⟩
                  have e0 : ev (.tmp 3) = .pointer (some ⟨w.heap.size, 0, Option.none⟩) := hk.1
                  exact OpOk.run (v := .pointer (some ⟨w.heap.size, 2, Option.none⟩)) (W' := X) (by simp [execOp, e0, hb.1, go_sem]) ⟨rfl, Stay.refl _⟩
                · intro ev X hT hb hk hf
                  refine .inl ⟨true, hf.2.1, fun _ => ?_, fun h => (h rfl).elim⟩
                  have e0 : ev (.tmp 136) = .pointer (some ⟨w.heap.size, 2, Option.none⟩) := hf.1
                  have cW := B2.out X hT
                  exact OpOk.run (v := .slice da q.data.length dc) (W' := X) (by simp [execOp, e0, cW, go_sem]) ⟨rfl, Stay.refl _⟩
                · intro ev X hT hb hk hf
                  refine .inl ⟨true, hf.2.1, fun _ => ?_, fun h => (h rfl).elim⟩
                  have e0 : ev (.tmp 137) = .slice da q.data.length dc := hf.1
                  exact OpOk.convert rfl e0 (run_string_of hu hu8 (L2.out.below hT) _ hstr) ⟨rfl, Stay.refl _⟩
                · intro ev X hT hb hk hf
                  refine .inl ⟨true, hf.2.2.1, fun _ => ?_, fun h => (h rfl).elim⟩
                  have e0 : ev (.tmp 135) = .string (strOf q.data) := hf.1
                  have e1 : ev (.tmp 138) = .string (strOf q.data) := hf.2.1
                  exact OpOk.run (v := .bool true) (W' := X) (by simp [execOp, e0, e1, hb.1, go_sem]) ⟨rfl, Stay.refl _⟩
                · intro ev X hT hb hk hf
                  have e0 : ev (.tmp 132) = .bool true := hf.1
                  have e1 : ev (.tmp 139) = .bool true := hf.2.1
                  exact OpOk.run (v := .bool true) (W' := X) (by simp [execOp, e0, e1, hb, hb.1, hb.2.1, hb.2.2, go_sem]) ⟨rfl, Stay.refl _⟩
                · intro ev X hT hb hk hf
                  have e0 : ev (.tmp 140) = .bool true := hf.1
                  exact OpOk.move rfl e0 ⟨rfl, Stay.refl _⟩
                · intro ev X hT hb hk hf
                  refine .inl ⟨true, hf.1, fun _ => ?_, fun h => (h rfl).elim⟩
                  have e0 : ev (.tmp 2) = .slice la l.length lc := hk.1
                  exact OpOk.move rfl e0 ⟨rfl, Stay.refl _⟩
                · intro ev X hT hb hk hf
                  refine .inl ⟨true, hf.2.1, fun _ => ?_, fun h => (h rfl).elim⟩
                  have e0 : ev (.tmp 142) = .slice la l.length lc := hf.1
                  refine OpOk.enters (f := 27) (args := #[.slice la l.length lc]) (W' := X) (by simp [execOp, resolve, invoke, e0, hb.2.1, go_sem]) ((numbers_any _ l X (Lw.out.below hT) (by omega)).mono ?_)
                  rintro e X2 ⟨v', rfl, h4, h5⟩
                  exact ⟨_, rfl, own_bytes h4, all_below h4.right h5⟩
                · intro ev X hT hb hk hf
                  refine .inl ⟨true, hf.2.1, fun _ => ?_, fun h => (h rfl).elim⟩
                  have e0 := hf.1
                  have e0' : IsBytes X (ev (.tmp 143)) (numsB l) := e0
                  obtain ⟨xa, xc, ex, _, _, hlx, _⟩ := e0'
                  exact OpOk.convert rfl ex (run_string_of hu hu8 hlx _ hstr) ⟨rfl, Stay.refl _⟩
                · intro ev X hT hb hk hf
                  refine .inl ⟨true, hf.1, fun _ => ?_, fun h => (h rfl).elim⟩
                  have e0 : ev (.tmp 13) = .slice va (numsB l).length vc := hk.1
                  exact OpOk.move rfl e0 ⟨rfl, Stay.refl _⟩
                · intro ev X hT hb hk hf
                  refine .inl ⟨true, hf.2.1, fun _ => ?_, fun h => (h rfl).elim⟩
                  have e0 : ev (.tmp 145) = .slice va (numsB l).length vc := hf.1
                  exact OpOk.convert rfl e0 (run_string_of hu hu8 (L3.out.below hT) _ hstr) ⟨rfl, Stay.refl _⟩
                · intro ev X hT hb hk hf
                  refine .inl ⟨true, hf.2.2.1, fun _ => ?_, fun h => (h rfl).elim⟩
                  have e0 : ev (.tmp 144) = .string (strOf (numsB l)) := hf.1
                  have e1 : ev (.tmp 146) = .string (strOf (numsB l)) := hf.2.1
                  exact OpOk.run (v := .bool true) (W' := X) (by simp [execOp, e0, e1, hb.1, go_sem]) ⟨rfl, Stay.refl _⟩
                · intro ev X hT hb hk hf
                  have e0 : ev (.tmp 141) = .bool true := hf.1
                  have e1 : ev (.tmp 147) = .bool true := hf.2.1
                  exact OpOk.run (v := .bool true) (W' := X) (by simp [execOp, e0, e1, hb, hb.1, hb.2.1, hb.2.2, go_sem]) ⟨rfl, Stay.refl _⟩
                · intro ev X hT hb hk hf
                  have e0 : ev (.tmp 148) = .bool true := hf.1
                  exact OpOk.assign rfl e0 ⟨rfl, Stay.refl _⟩
              case rest =>
                intro X hT
                rintro v - v - v - v - v - v - v - v - v - v - v - v - v - v - v - v - v - v - v - v - v - v - v - v - v - v - v - v - v - v - v - v - v - _ rfl
                have HX := hide (HB.out.trans (hT.mono HB.out.size))
                clear hT
                go_wp2
                refine Rest.done ?_
                go_wp2_with fail
                go_ret
                exact ⟨rfl, HX.out⟩
      · rw [if_neg hx] at hz
        have hG := Hno.out (by rw [hz]; decide)
        rw [hz]
        have hne96 : (((x.toNat : Nat) : Int) != 96) = true := by
          have : x.toNat ≠ (96 : UInt8).toNat := fun h => hx (UInt8.toNat_inj.1 h)
          have h96 : (96 : UInt8).toNat = 96 := rfl
          rw [h96] at this
          simp; omega
        rw [hG] at H7 GT Hi2 HW7 ⊢
        have G0 : Hid (∀ X, Stay w7 X → X.cell? ⟨w6.heap.size, 0, Option.none⟩ = some (Value.int .u8 0)) := hide fun X hT => cell_of_row _ _ 0 _ _ _ ((hT.block _ (Array.getElem?_eq_some_iff.1 GT.out).1).trans GT.out)
        have G1 : Hid (∀ X, Stay w7 X → X.cell? ⟨w6.heap.size, 1, Option.none⟩ = some (Value.int .u8 0)) := hide fun X hT => cell_of_row _ _ 1 _ _ _ ((hT.block _ (Array.getElem?_eq_some_iff.1 GT.out).1).trans GT.out)
        have G2 : Hid (∀ X, Stay w7 X → X.cell? ⟨w6.heap.size, 2, Option.none⟩ = some (.slice a2 0 c2)) := hide fun X hT => cell_of_row _ _ 2 _ _ _ ((hT.block _ (Array.getElem?_eq_some_iff.1 GT.out).1).trans GT.out)
        clear hz hG Hno Hyes Herr hx
        go_wp2_with (refine wpList_store_row rfl _ _ _ rfl w6.heap.size (respCells zeroA _) rfl rfl _ _ hr6 hsa (za_size _ _) (resp_one _ _ _ _) ?_; rw [HW7.out])
        refine wp_region_vsg [isV (.int .i64 7), isV (.int .i64 7), isV (.bool false), isV (.bool false), isV (.int .i64 7), isV (.bool false), isV (.bool false), isV (undef), isV (undef), isV (undef), isV (undef), isV (undef), isV (undef), isV (.bool false), isV (.bool false), isV (.bool false), isV (.int .i64 7), isV (.bool true), isV (.bool true), isV (.pointer (some ⟨w6.heap.size, 0, Option.none⟩)), isV (.int .u8 0), isV (.bool false), isV (.bool false), isV (.pointer (some ⟨w6.heap.size, 1, Option.none⟩)), isV (.int .u8 0), isV (.bool false), isV (.bool false), isV (.bool false), isV (.pointer (some ⟨w6.heap.size, 2, Option.none⟩)), isV (.slice a2 0 c2), isV (.int .i64 0), isV (.bool false), isV (.bool false), isV (.bool false), isV (.bool false)]
          (by kernel_rfl) (by kernel_rfl) rfl ?keep ?todo ?rest
        case keep => exact ⟨Keep.isV _, Keep.isV _, Keep.isV _, Keep.isV _, Keep.isV _, Keep.isV _, Keep.isV _, Keep.isV _, Keep.isV _, Keep.isV _, Keep.isV _, Keep.isV _, Keep.isV _, Keep.isV _, Keep.isV _, Keep.isV _, Keep.isV _, Keep.isV _, Keep.isV _, Keep.isV _, Keep.isV _, Keep.isV _, Keep.isV _, Keep.isV _, Keep.isV _, Keep.isV _, Keep.isV _, Keep.isV _, Keep.isV _, Keep.isV _, Keep.isV _, Keep.isV _, Keep.isV _, Keep.isV _, Keep.isV _, trivial⟩
        case todo =>
          refine ⟨?_, ?_, ?_, ?_, ?_, ?_, ?_, ?_, ?_, ?_, ?_, ?_, ?_, ?_, ?_, ?_, ?_, ?_, ?_, ?_, ?_, ?_, ?_, ?_, ?_, ?_, ?_, ?_, ?_, ?_, ?_, ?_, ?_, ?_, ?_, trivial⟩
          · intro ev X hT hb hk hf
            have e0 : ev (.tmp 11) = .int .i64 7 := hk.1
            exact OpOk.move rfl e0 ⟨rfl, Stay.refl _⟩
          · intro ev X hT hb hk hf
            have e0 : ev (.tmp 12) = .int .i64 7 := hk.1
            exact OpOk.move rfl e0 ⟨rfl, Stay.refl _⟩
          · intro ev X hT hb hk hf
            have e0 : ev (.tmp 70) = .int .i64 7 := hf.1
            have e1 : ev (.tmp 71) = .int .i64 7 := hf.2.1
            exact OpOk.run (v := .bool false) (W' := X) (by simp [execOp, e0, e1, hb.1, go_sem]) ⟨rfl, Stay.refl _⟩
          · intro ev X hT hb hk hf
            have e0 : ev (.tmp 72) = .bool false := hf.1
            exact OpOk.move rfl e0 ⟨rfl, Stay.refl _⟩
          · intro ev X hT hb hk hf
            refine .inl ⟨false, hf.1, fun _ => ?_, fun h => (h rfl).elim⟩
            have e0 : ev (.tmp 11) = .int .i64 7 := hk.1
            exact OpOk.move rfl e0 ⟨rfl, Stay.refl _⟩
          · intro ev X hT hb hk hf
            refine .inl ⟨false, hf.2.1, fun _ => ?_, fun h => (h rfl).elim⟩
            have e0 : ev (.tmp 74) = .int .i64 7 := hf.1
            exact OpOk.run (v := .bool false) (W' := X) (by simp [execOp, e0, hb.1, go_sem]) ⟨rfl, Stay.refl _⟩
          · intro ev X hT hb hk hf
            refine .inl ⟨false, hf.2.1, fun _ => ?_, fun h => (h rfl).elim⟩
            have e0 : ev (.tmp 75) = .bool false := hf.1
            exact OpOk.move rfl e0 ⟨rfl, Stay.refl _⟩
          · exact fun ev X hT hb hk hf => .inl ⟨false, hf.1, fun h => (nomatch h), fun _ => rfl⟩
          · exact fun ev X hT hb hk hf => .inl ⟨false, hf.2.1, fun h => (nomatch h), fun _ => rfl⟩
          · exact fun ev X hT hb hk hf => .inl ⟨false, hf.2.1, fun h => (nomatch h), fun _ => rfl⟩
          · exact fun ev X hT hb hk hf => .inl ⟨false, hf.1, fun h => (nomatch h), fun _ => rfl⟩
          · exact fun ev X hT hb hk hf => .inl ⟨false, hf.2.1, fun h => (nomatch h), fun _ => rfl⟩
          · exact fun ev X hT hb hk hf => .inl ⟨false, hf.2.2.1, fun h => (nomatch h), fun _ => rfl⟩
          · intro ev X hT hb hk hf
            refine .inl ⟨false, hf.2.2.1, fun _ => ?_, fun h => (h rfl).elim⟩
            have e0 : ev (.tmp 76) = .bool false := hf.1
            have e1 : ev (.tmp 82) = undef := hf.2.1
            exact OpOk.run (v := .bool false) (W' := X) (by simp [execOp, e0, e1, hb, hb.1, hb.2.1, hb.2.2, go_sem]) ⟨rfl, Stay.refl _⟩
          · intro ev X hT hb hk hf
            have e0 : ev (.tmp 73) = .bool false := hf.1
            have e1 : ev (.tmp 83) = .bool false := hf.2.1
            exact OpOk.run (v := .bool false) (W' := X) (by simp [execOp, e0, e1, hb, hb.1, hb.2.1, hb.2.2, go_sem]) ⟨rfl, Stay.refl _⟩
          · intro ev X hT hb hk hf
            have e0 : ev (.tmp 84) = .bool false := hf.1
            exact OpOk.move rfl e0 ⟨rfl, Stay.refl _⟩
          · intro ev X hT hb hk hf
            refine .inl ⟨false, hf.1, fun _ => ?_, fun h => (h rfl).elim⟩
            have e0 : ev (.tmp 11) = .int .i64 7 := hk.1
            exact OpOk.move rfl e0 ⟨rfl, Stay.refl _⟩
          · intro ev X hT hb hk hf
            refine .inl ⟨false, hf.2.1, fun _ => ?_, fun h => (h rfl).elim⟩
            have e0 : ev (.tmp 86) = .int .i64 7 := hf.1
            exact OpOk.run (v := .bool true) (W' := X) (by simp [execOp, e0, hb.1, go_sem]) ⟨rfl, Stay.refl _⟩
          · intro ev X hT hb hk hf
            refine .inl ⟨false, hf.2.1, fun _ => ?_, fun h => (h rfl).elim⟩
            have e0 : ev (.tmp 87) = .bool true := hf.1
            exact OpOk.move rfl e0 ⟨rfl, Stay.refl _⟩
          · intro ev X hT hb hk hf
            refine .inl ⟨true, hf.1, fun _ => ?_, fun h => (h rfl).elim⟩
            have e0 : ev (.tmp 10) = .pointer (some ⟨w6.heap.size, 0, Option.none⟩) := hk.1
            exact OpOk.run (v := .pointer (some ⟨w6.heap.size, 0, Option.none⟩)) (W' := X) (by simp [execOp, e0, hb.1, go_sem]) ⟨rfl, Stay.refl _⟩
          · intro ev X hT hb hk hf
            refine .inl ⟨true, hf.2.1, fun _ => ?_, fun h => (h rfl).elim⟩
            have e0 : ev (.tmp 89) = .pointer (some ⟨w6.heap.size, 0, Option.none⟩) := hf.1
            have cW := G0.out X hT
            exact OpOk.run (v := .int .u8 0) (W' := X) (by simp [execOp, e0, cW, go_sem]) ⟨rfl, Stay.refl _⟩
          · intro ev X hT hb hk hf
            refine .inl ⟨true, hf.2.1, fun _ => ?_, fun h => (h rfl).elim⟩
            have e0 : ev (.tmp 90) = .int .u8 0 := hf.1
            exact OpOk.run (v := .bool false) (W' := X) (by simp [execOp, e0, hb.1, go_sem]) ⟨rfl, Stay.refl _⟩
          · intro ev X hT hb hk hf
            refine .inl ⟨true, hf.2.1, fun _ => ?_, fun h => (h rfl).elim⟩
            have e0 : ev (.tmp 91) = .bool false := hf.1
            exact OpOk.move rfl e0 ⟨rfl, Stay.refl _⟩
          · intro ev X hT hb hk hf
            refine .inl ⟨false, hf.1, fun _ => ?_, fun h => (h rfl).elim⟩
            have e0 : ev (.tmp 10) = .pointer (some ⟨w6.heap.size, 0, Option.none⟩) := hk.1
            exact OpOk.run (v := .pointer (some ⟨w6.heap.size, 1, Option.none⟩)) (W' := X) (by simp [execOp, e0, hb.1, go_sem]) ⟨rfl, Stay.refl _⟩
          · intro ev X hT hb hk hf
            refine .inl ⟨false, hf.2.1, fun _ => ?_, fun h => (h rfl).elim⟩
            have e0 : ev (.tmp 93) = .pointer (some ⟨w6.heap.size, 1, Option.none⟩) := hf.1
            have cW := G1.out X hT
            exact OpOk.run (v := .int .u8 0) (W' := X) (by simp [execOp, e0, cW, go_sem]) ⟨rfl, Stay.refl _⟩
          · intro ev X hT hb hk hf
            refine .inl ⟨false, hf.2.1, fun _ => ?_, fun h => (h rfl).elim⟩
            have e0 : ev (.tmp 94) = .int .u8 0 := hf.1
            exact OpOk.run (v := .bool false) (W' := X) (by simp [execOp, e0, hb.1, go_sem]) ⟨rfl, Stay.refl _⟩
          · intro ev X hT hb hk hf
            refine .inl ⟨true, hf.2.2.1, fun _ => ?_, fun h => (h rfl).elim⟩
            have e0 : ev (.tmp 92) = .bool false := hf.1
            have e1 : ev (.tmp 95) = .bool false := hf.2.1
            exact OpOk.run (v := .bool false) (W' := X) (by simp [execOp, e0, e1, hb, hb.1, hb.2.1, hb.2.2, go_sem]) ⟨rfl, Stay.refl _⟩
          · intro ev X hT hb hk hf
            refine .inl ⟨true, hf.2.2.1, fun _ => ?_, fun h => (h rfl).elim⟩
            have e0 : ev (.tmp 96) = .bool false := hf.1
            exact OpOk.move rfl e0 ⟨rfl, Stay.refl _⟩
          · intro ev X hT hb hk hf
            refine .inl ⟨false, hf.1, fun _ => ?_, fun h => (h rfl).elim⟩
            have e0 : ev (.tmp 10) = .pointer (some ⟨w6.heap.size, 0, Option.none⟩) := hk.1
            exact OpOk.run (v := .pointer (some ⟨w6.heap.size, 2, Option.none⟩)) (W' := X) (by simp [execOp, e0, hb.1, go_sem]) ⟨rfl, Stay.refl _⟩
          · intro ev X hT hb hk hf
            refine .inl ⟨false, hf.2.1, fun _ => ?_, fun h => (h rfl).elim⟩
            have e0 : ev (.tmp 98) = .pointer (some ⟨w6.heap.size, 2, Option.none⟩) := hf.1
            have cW := G2.out X hT
            exact OpOk.run (v := .slice a2 0 c2) (W' := X) (by simp [execOp, e0, cW, go_sem]) ⟨rfl, Stay.refl _⟩
          · intro ev X hT hb hk hf
            refine .inl ⟨false, hf.2.1, fun _ => ?_, fun h => (h rfl).elim⟩
            have e0 : ev (.tmp 99) = .slice a2 0 c2 := hf.1
            exact OpOk.run (v := .int .i64 0) (W' := X) (by simp [execOp, e0, hb.1, go_sem]) ⟨rfl, Stay.refl _⟩
          · intro ev X hT hb hk hf
            refine .inl ⟨false, hf.2.1, fun _ => ?_, fun h => (h rfl).elim⟩
            have e0 : ev (.tmp 100) = .int .i64 0 := hf.1
            exact OpOk.run (v := .bool false) (W' := X) (by simp [execOp, e0, hb.1, go_sem]) ⟨rfl, Stay.refl _⟩
          · intro ev X hT hb hk hf
            refine .inl ⟨true, hf.2.2.1, fun _ => ?_, fun h => (h rfl).elim⟩
            have e0 : ev (.tmp 97) = .bool false := hf.1
            have e1 : ev (.tmp 101) = .bool false := hf.2.1
            exact OpOk.run (v := .bool false) (W' := X) (by simp [execOp, e0, e1, hb, hb.1, hb.2.1, hb.2.2, go_sem]) ⟨rfl, Stay.refl _⟩
          · intro ev X hT hb hk hf
            refine .inl ⟨false, hf.2.2.1, fun _ => ?_, fun h => (h rfl).elim⟩
            have e0 : ev (.tmp 88) = .bool true := hf.1
            have e1 : ev (.tmp 102) = .bool false := hf.2.1
            exact OpOk.run (v := .bool false) (W' := X) (by simp [execOp, e0, e1, hb, hb.1, hb.2.1, hb.2.2, go_sem]) ⟨rfl, Stay.refl _⟩
          · intro ev X hT hb hk hf
            have e0 : ev (.tmp 85) = .bool false := hf.1
            have e1 : ev (.tmp 103) = .bool false := hf.2.1
            exact OpOk.run (v := .bool false) (W' := X) (by simp [execOp, e0, e1, hb, hb.1, hb.2.1, hb.2.2, go_sem]) ⟨rfl, Stay.refl _⟩
        case rest =>
          intro X hT
          rintro v - v - v - v - v - v - v - v - v - v - v - v - v - v - v - v - v - v - v - v - v - v - v - v - v - v - v - v - v - v - v - v - v - v - _ rfl
          have H8 := hide (H7.out.below hT)
          have Hs8 := hide (Hs7.out.trans (Str.below hT))
          clear hT H7 Hs7 hr6 HW7
          go_wp2
          refine Rest.done ?_
          go_wp2_with fail
          have H9 := hide (own_nil 5 1 H8.out)
          go_loopw [13, 107] (fun v i wr => ∃ k : Nat, k ≤ l.length ∧ i = .int .i64 k ∧ (ownR v (numsB (l.take k)) * (blk w6.heap.size (.cells (respCells zeroA (.slice a2 zeroA.data.length c2)) 58 (0, 0)) * (ownR (.slice a2 zeroA.data.length c2) zeroA.data * (blk w4.heap.size (.cells (respCells q (.slice a1 q.data.length c1)) 58 (0, 0)) * (ownR (.slice a1 q.data.length c1) q.data * (ownR (.slice ca abq.length cc) abq * (blk w.heap.size (.cells (respCells q (.slice da q.data.length dc)) 58 (0, 0)) * all w))))))).on wr ∧ Str w wr) (fun _ i _ => l.length - (intOf i).toNat)
          case atStart => exact ⟨0, by omega, rfl, H9.out, Hs8.out⟩
          case round =>
            obtain ⟨k, hk, rfl, how, hstr2⟩ := hrel
            by_cases hlt : k < l.length
            · have hB := all_below how.right.right.right.right.right.right.right hstr2
              obtain ⟨_, _, e1, _, _, hll, _, hn⟩ := Hl.out.below hB
              simp only [Value.slice.injEq] at e1
              obtain ⟨e11, _, e12⟩ := e1
              subst e11 e12
              obtain ⟨lg, lo, rfl⟩ := hll.isAddr k (by simpa using hlt)
              have cl := Lay.cell hll k (show (l.map u32v)[k]? = some (u32v l[k]) by simp [hlt])
              have HS := hide (numsB_take l k hlt)
              have hn1 := hn l[k] (List.getElem_mem hlt)
              have hl2 : (numsB (l.take k)).length ≤ 200 := by rw [numsB_len, List.length_take]; omega
              generalize l[k] = n at *
              generalize numsB (l.take k) = acc at *
              obtain ⟨oa, oc, rfl, _, _, _, _⟩ := own_value how
              have How := hide how
              have Hstr2 := hide hstr2
              have hk0 : (0 : Int) ≤ (k : Int) := by omega
              have hkl : (k : Int) < (l.length : Int) := by omega
              clear how hstr2 hll hn hB
              go_wp2_with fail
              refine (rword_any n hn1 wr).mono ?_
              rintro e wq ⟨vq, rfl, hq, hsq⟩
              have Hnq := hide (own_bytes hq)
              have Hpq := hide (SP.on.below How.out (all_below hq.right hsq))
              have Htq := hide (Hstr2.out.trans hsq)
              obtain ⟨dq, eq, rfl, _, _, _, _⟩ := own_value hq
              clear hq hsq
              go_wp2_with (at_builtin; refine wpList_append_bytes (F := (blk w6.heap.size (.cells (respCells zeroA (.slice a2 zeroA.data.length c2)) 58 (0, 0)) * (ownR (.slice a2 zeroA.data.length c2) zeroA.data * (blk w4.heap.size (.cells (respCells q (.slice a1 q.data.length c1)) 58 (0, 0)) * (ownR (.slice a1 q.data.length c1) q.data * (ownR (.slice ca abq.length cc) abq * (blk w.heap.size (.cells (respCells q (.slice da q.data.length dc)) 58 (0, 0)) * all w))))))) rfl _ _ 23 rfl 5 hu infoR _ acc (wordB n) rfl Hpq.out _ rfl Hnq.out (by simp [wordB_len]; omega) ?_; intro v2 wz ho2 hs2; rw [← HS.out] at ho2)
              exact ⟨⟨k + 1, by omega, by simp, ho2, Htq.out.trans hs2⟩, by simp [intOf]; omega⟩
            · obtain rfl : k = l.length := by omega
              rw [List.take_length] at how
              obtain ⟨va, vc, rfl, _, _, hl3, _⟩ := own_value how
              obtain ⟨a0, a1', a2'⟩ := respBox (on_blk_mul how.right.right.right)
              obtain ⟨b0, b1, b2⟩ := respBox (on_blk_mul how.right.right.right.right.right.right)
              have hB := all_below how.right.right.right.right.right.right.right hstr2
              obtain ⟨_, _, ex, _, _, hl1, _⟩ := own_value how.right.right.right.right
              simp only [Value.slice.injEq] at ex
              obtain ⟨rfl, _, rfl⟩ := ex
              obtain ⟨_, _, ex, _, _, hl2, _⟩ := Hd.out.below hB
              simp only [Value.slice.injEq] at ex
              obtain ⟨rfl, _, rfl⟩ := ex
              have Lw := hide (Hl.out.below hB)
              have L1 := hide hl1
              have L2 := hide hl2
              have L3 := hide hl3
              have st {p : Addr} {u : Value} (h : wr.cell? p = some u) : ∀ X, Stay wr X → X.cell? p = some u := fun X hT => (hT.cell (p := p) (World.block_lt_of_cell? wr _ h)).trans h
              have A0 := hide (st a0)
              have A1 := hide (st a1')
              have A2 := hide (st a2')
              have B0 := hide (st b0)
              have B1 := hide (st b1)
              have B2 := hide (st b2)
              have HB := hide hB
              clear st a0 a1' a2' b0 b1 b2 hB hl1 hl2 hl3 how hlt hk H8 H9
              go_wp2_with fail
              refine wp_region_vsg [isV (.int .i64 0), isV (.bool true), isV (.bool true), isV (.pointer (some ⟨w4.heap.size, 0, Option.none⟩)), isV (vb q.op), isV (.pointer (some ⟨w.heap.size, 0, Option.none⟩)), isV (vb q.op), isV (.bool true), isV (.bool true), isV (.bool true), isV (.pointer (some ⟨w4.heap.size, 1, Option.none⟩)), isV (vb q.result), isV (.pointer (some ⟨w.heap.size, 1, Option.none⟩)), isV (vb q.result), isV (.bool true), isV (.bool true), isV (.bool true), isV (.pointer (some ⟨w4.heap.size, 2, Option.none⟩)), isV (.slice a1 q.data.length c1), isV (.string (strOf q.data)), isV (.pointer (some ⟨w.heap.size, 2, Option.none⟩)), isV (.slice da q.data.length dc), isV (.string (strOf q.data)), isV (.bool true), isV (.bool true), isV (.bool true), isV (.slice la l.length lc), (fun v X => IsBytes X v (numsB l)), isV (.string (strOf (numsB l))), isV (.slice va (numsB l).length vc), isV (.string (strOf (numsB l))), isV (.bool true), isV (.bool true), isV (.bool true)]
                (by kernel_rfl) (by kernel_rfl) rfl ?keep ?todo ?rest
              case keep => exact ⟨Keep.isV _, Keep.isV _, Keep.isV _, Keep.isV _, Keep.isV _, Keep.isV _, Keep.isV _, Keep.isV _, Keep.isV _, Keep.isV _, Keep.isV _, Keep.isV _, Keep.isV _, Keep.isV _, Keep.isV _, Keep.isV _, Keep.isV _, Keep.isV _, Keep.isV _, Keep.isV _, Keep.isV _, Keep.isV _, Keep.isV _, Keep.isV _, Keep.isV _, Keep.isV _, Keep.isV _, fun _ _ _ h k => IsBytes.below h k, Keep.isV _, Keep.isV _, Keep.isV _, Keep.isV _, Keep.isV _, Keep.isV _, trivial⟩
              case todo =>
                refine ⟨?_, ?_, ?_, ?_, ?_, ?_, ?_, ?_, ?_, ?_, ?_, ?_, ?_, ?_, ?_, ?_, ?_, ?_, ?_, ?_, ?_, ?_, ?_, ?_, ?_, ?_, ?_, ?_, ?_, ?_, ?_, ?_, ?_, ?_, trivial⟩
                · intro ev X hT hb hk hf
                  have e0 : ev (.tmp 9) = .int .i64 0 := hk.1
                  exact OpOk.move rfl e0 ⟨rfl, Stay.refl _⟩
                · intro ev X hT hb hk hf
                  have e0 : ev (.tmp 116) = .int .i64 0 := hf.1
                  exact OpOk.run (v := .bool true) (W' := X) (by simp [execOp, e0, hb.1, go_sem]) ⟨rfl, Stay.refl _⟩
                · intro ev X hT hb hk hf
                  have e0 : ev (.tmp 117) = .bool true := hf.1
                  exact OpOk.move rfl e0 ⟨rfl, Stay.refl _⟩
                · intro ev X hT hb hk hf
                  refine .inl ⟨true, hf.1, fun _ => ?_, fun h => (h rfl).elim⟩
                  have e0 : ev (.tmp 8) = .pointer (some ⟨w4.heap.size, 0, Option.none⟩) := hk.1
                  exact OpOk.run (v := .pointer (some ⟨w4.heap.size, 0, Option.none⟩)) (W' := X) (by simp [execOp, e0, hb.1, go_sem]) ⟨rfl, Stay.refl _⟩
                · intro ev X hT hb hk hf
                  refine .inl ⟨true, hf.2.1, fun _ => ?_, fun h => (h rfl).elim⟩
                  have e0 : ev (.tmp 119) = .pointer (some ⟨w4.heap.size, 0, Option.none⟩) := hf.1
                  have cW := A0.out X hT
                  exact OpOk.run (v := vb q.op) (W' := X) (by simp [execOp, e0, cW, go_sem]) ⟨rfl, Stay.refl _⟩
                · intro ev X hT hb hk hf
                  refine .inl ⟨true, hf.1, fun _ => ?_, fun h => (h rfl).elim⟩
                  have e0 : ev (.tmp 3) = .pointer (some ⟨w.heap.size, 0, Option.none⟩) := hk.1
                  exact OpOk.run (v := .pointer (some ⟨w.heap.size, 0, Option.none⟩)) (W' := X) (by simp [execOp, e0, hb.1, go_sem]) ⟨rfl, Stay.refl _⟩
                · intro ev X hT hb hk hf
                  refine .inl ⟨true, hf.2.1, fun _ => ?_, fun h => (h rfl).elim⟩
                  have e0 : ev (.tmp 121) = .pointer (some ⟨w.heap.size, 0, Option.none⟩) := hf.1
                  have cW := B0.out X hT
                  exact OpOk.run (v := vb q.op) (W' := X) (by simp [execOp, e0, cW, go_sem]) ⟨rfl, Stay.refl _⟩
                · intro ev X hT hb hk hf
                  refine .inl ⟨true, hf.2.2.1, fun _ => ?_, fun h => (h rfl).elim⟩
                  have e0 : ev (.tmp 120) = vb q.op := hf.1
                  have e1 : ev (.tmp 122) = vb q.op := hf.2.1
                  exact OpOk.run (v := .bool true) (W' := X) (by simp [execOp, e0, e1, hb.1, go_sem]) ⟨rfl, Stay.refl _⟩
                · intro ev X hT hb hk hf
                  have e0 : ev (.tmp 118) = .bool true := hf.1
                  have e1 : ev (.tmp 123) = .bool true := hf.2.1
                  exact OpOk.run (v := .bool true) (W' := X) (by simp [execOp, e0, e1, hb, hb.1, hb.2.1, hb.2.2, go_sem]) ⟨rfl, Stay.refl _⟩
                · intro ev X hT hb hk hf
                  have e0 : ev (.tmp 124) = .bool true := hf.1
                  exact OpOk.move rfl e0 ⟨rfl, Stay.refl _⟩
                · intro ev X hT hb hk hf
                  refine .inl ⟨true, hf.1, fun _ => ?_, fun h => (h rfl).elim⟩
                  have e0 : ev (.tmp 8) = .pointer (some ⟨w4.heap.size, 0, Option.none⟩) := hk.1
                  exact OpOk.run (v := .pointer (some ⟨w4.heap.size, 1, Option.none⟩)) (W' := X) (by simp [execOp, e0, hb.1, go_sem]) ⟨rfl, Stay.refl _⟩
                · intro ev X hT hb hk hf
                  refine .inl ⟨true, hf.2.1, fun _ => ?_, fun h => (h rfl).elim⟩
                  have e0 : ev (.tmp 126) = .pointer (some ⟨w4.heap.size, 1, Option.none⟩) := hf.1
                  have cW := A1.out X hT
                  exact OpOk.run (v := vb q.result) (W' := X) (by simp [execOp, e0, cW, go_sem]) ⟨rfl, Stay.refl _⟩
                · intro ev X hT hb hk hf
                  refine .inl ⟨true, hf.1, fun _ => ?_, fun h => (h rfl).elim⟩
                  have e0 : ev (.tmp 3) = .pointer (some ⟨w.heap.size, 0, Option.none⟩) := hk.1
                  exact OpOk.run (v := .pointer (some ⟨w.heap.size, 1, Option.none⟩)) (W' := X) (by simp [execOp, e0, hb.1, go_sem]) ⟨rfl, Stay.refl _⟩
                · intro ev X hT hb hk hf
                  refine .inl ⟨true, hf.2.1, fun _ => ?_, fun h => (h rfl).elim⟩
                  have e0 : ev (.tmp 128) = .pointer (some ⟨w.heap.size, 1, Option.none⟩) := hf.1
                  have cW := B1.out X hT
                  exact OpOk.run (v := vb q.result) (W' := X) (by simp [execOp, e0, cW, go_sem]) ⟨rfl, Stay.refl _⟩
                · intro ev X hT hb hk hf
                  refine .inl ⟨true, hf.2.2.1, fun _ => ?_, fun h => (h rfl).elim⟩
                  have e0 : ev (.tmp 127) = vb q.result := hf.1
                  have e1 : ev (.tmp 129) = vb q.result := hf.2.1
                  exact OpOk.run (v := .bool true) (W' := X) (by simp [execOp, e0, e1, hb.1, go_sem]) ⟨rfl, Stay.refl _⟩
                · intro ev X hT hb hk hf
                  have e0 : ev (.tmp 125) = .bool true := hf.1
                  have e1 : ev (.tmp 130) = .bool true := hf.2.1
                  exact OpOk.run (v := .bool true) (W' := X) (by simp [execOp, e0, e1, hb, hb.1, hb.2.1, hb.2.2, go_sem]) ⟨rfl, Stay.refl _⟩
                · intro ev X hT hb hk hf
                  have e0 : ev (.tmp 131) = .bool true := hf.1
                  exact OpOk.move rfl e0 ⟨rfl, Stay.refl _⟩
                · intro ev X hT hb hk hf
                  refine .inl ⟨true, hf.1, fun _ => ?_, fun h => (h rfl).elim⟩
                  have e0 : ev (.tmp 8) = .pointer (some ⟨w4.heap.size, 0, Option.none⟩) := hk.1
                  exact OpOk.run (v := .pointer (some ⟨w4.heap.size, 2, Option.none⟩)) (W' := X) (by simp [execOp, e0, hb.1, go_sem]) ⟨rfl, Stay.refl _⟩
                · intro ev X hT hb hk hf
                  refine .inl ⟨true, hf.2.1, fun _ => ?_, fun h => (h rfl).elim⟩
                  have e0 : ev (.tmp 133) = .pointer (some ⟨w4.heap.size, 2, Option.none⟩) := hf.1
                  have cW := A2.out X hT
                  exact OpOk.run (v := .slice a1 q.data.length c1) (W' := X) (by simp [execOp, e0, cW, go_sem]) ⟨rfl, Stay.refl _⟩
                · intro ev X hT hb hk hf
                  refine .inl ⟨true, hf.2.1, fun _ => ?_, fun h => (h rfl).elim⟩
                  have e0 : ev (.tmp 134) = .slice a1 q.data.length c1 := hf.1
                  exact OpOk.convert rfl e0 (run_string_of hu hu8 (L1.out.below hT) _ hstr) ⟨rfl, Stay.refl _⟩
                · intro ev X hT hb hk hf
                  refine .inl ⟨true, hf.1, fun _ => ?_, fun h => (h rfl).elim⟩
                  have e0 : ev (.tmp 3) = .pointer (some ⟨w.heap.size, 0, Option.none⟩) := hk.1
                  exact OpOk.run (v := .pointer (some ⟨w.heap.size, 2, Option.none⟩)) (W' := X) (by simp [execOp, e0, hb.1, go_sem]) ⟨rfl, Stay.refl _⟩
                · intro ev X hT hb hk hf
                  refine .inl ⟨true, hf.2.1, fun _ => ?_, fun h => (h rfl).elim⟩
                  have e0 : ev (.tmp 136) = .pointer (some ⟨w.heap.size, 2, Option.none⟩) := hf.1
                  have cW := B2.out X hT
                  exact OpOk.run (v := .slice da q.data.length dc) (W' := X) (by simp [execOp, e0, cW, go_sem]) ⟨rfl, Stay.refl _⟩
                · intro ev X hT hb hk hf
                  refine .inl ⟨true, hf.2.1, fun _ => ?_, fun h => (h rfl).elim⟩
                  have e0 : ev (.tmp 137) = .slice da q.data.length dc := hf.1
                  exact OpOk.convert rfl e0 (run_string_of hu hu8 (L2.out.below hT) _ hstr) ⟨rfl, Stay.refl _⟩
                · intro ev X hT hb hk hf
                  refine .inl ⟨true, hf.2.2.1, fun _ => ?_, fun h => (h rfl).elim⟩
                  have e0 : ev (.tmp 135) = .string (strOf q.data) := hf.1
                  have e1 : ev (.tmp 138) = .string (strOf q.data) := hf.2.1
                  exact OpOk.run (v := .bool true) (W' := X) (by simp [execOp, e0, e1, hb.1, go_sem]) ⟨rfl, Stay.refl _⟩
                · intro ev X hT hb hk hf
                  have e0 : ev (.tmp 132) = .bool true := hf.1
                  have e1 : ev (.tmp 139) = .bool true := hf.2.1
                  exact OpOk.run (v := .bool true) (W' := X) (by simp [execOp, e0, e1, hb, hb.1, hb.2.1, hb.2.2, go_sem]) ⟨rfl, Stay.refl _⟩
                · intro ev X hT hb hk hf
                  have e0 : ev (.tmp 140) = .bool true := hf.1
                  exact OpOk.move rfl e0 ⟨rfl, Stay.refl _⟩
                · intro ev X hT hb hk hf
                  refine .inl ⟨true, hf.1, fun _ => ?_, fun h => (h rfl).elim⟩
                  have e0 : ev (.tmp 2) = .slice la l.length lc := hk.1
                  exact OpOk.move rfl e0 ⟨rfl, Stay.refl _⟩
                · intro ev X hT hb hk hf
                  refine .inl ⟨true, hf.2.1, fun _ => ?_, fun h => (h rfl).elim⟩
                  have e0 : ev (.tmp 142) = .slice la l.length lc := hf.1
                  refine OpOk.enters (f := 27) (args := #[.slice la l.length lc]) (W' := X) (by simp [execOp, resolve, invoke, e0, hb.2.1, go_sem]) ((numbers_any _ l X (Lw.out.below hT) (by omega)).mono ?_)
                  rintro e X2 ⟨v', rfl, h4, h5⟩
                  exact ⟨_, rfl, own_bytes h4, all_below h4.right h5⟩
                · intro ev X hT hb hk hf
                  refine .inl ⟨true, hf.2.1, fun _ => ?_, fun h => (h rfl).elim⟩
                  have e0 := hf.1
                  have e0' : IsBytes X (ev (.tmp 143)) (numsB l) := e0
                  obtain ⟨xa, xc, ex, _, _, hlx, _⟩ := e0'
                  exact OpOk.convert rfl ex (run_string_of hu hu8 hlx _ hstr) ⟨rfl, Stay.refl _⟩
                · intro ev X hT hb hk hf
                  refine .inl ⟨true, hf.1, fun _ => ?_, fun h => (h rfl).elim⟩
                  have e0 : ev (.tmp 13) = .slice va (numsB l).length vc := hk.1
                  exact OpOk.move rfl e0 ⟨rfl, Stay.refl _⟩
                · intro ev X hT hb hk hf
                  refine .inl ⟨true, hf.2.1, fun _ => ?_, fun h => (h rfl).elim⟩
                  have e0 : ev (.tmp 145) = .slice va (numsB l).length vc := hf.1
                  exact OpOk.convert rfl e0 (run_string_of hu hu8 (L3.out.below hT) _ hstr) ⟨rfl, Stay.refl _⟩
                · intro ev X hT hb hk hf
                  refine .inl ⟨true, hf.2.2.1, fun _ => ?_, fun h => (h rfl).elim⟩
                  have e0 : ev (.tmp 144) = .string (strOf (numsB l)) := hf.1
                  have e1 : ev (.tmp 146) = .string (strOf (numsB l)) := hf.2.1
                  exact OpOk.run (v := .bool true) (W' := X) (by simp [execOp, e0, e1, hb.1, go_sem]) ⟨rfl, Stay.refl _⟩
                · intro ev X hT hb hk hf
                  have e0 : ev (.tmp 141) = .bool true := hf.1
                  have e1 : ev (.tmp 147) = .bool true := hf.2.1
                  exact OpOk.run (v := .bool true) (W' := X) (by simp [execOp, e0, e1, hb, hb.1, hb.2.1, hb.2.2, go_sem]) ⟨rfl, Stay.refl _⟩
                · intro ev X hT hb hk hf
                  have e0 : ev (.tmp 148) = .bool true := hf.1
                  exact OpOk.assign rfl e0 ⟨rfl, Stay.refl _⟩
              case rest =>
                intro X hT
                rintro v - v - v - v - v - v - v - v - v - v - v - v - v - v - v - v - v - v - v - v - v - v - v - v - v - v - v - v - v - v - v - v - v - _ rfl
                have HX := hide (HB.out.trans (hT.mono HB.out.size))
                clear hT
                go_wp2
                refine Rest.done ?_
                go_wp2_with fail
                go_ret
                exact ⟨rfl, HX.out⟩
namespace lawOpcodeAnswers
theorem own : ownKnob Try.prog.godebug = Option.none := by kernel_rfl
theorem laidOut : laidOutB Try.prog = true := by kernel_rfl
set_option maxRecDepth 100000 in
theorem lifted (os : Os) (started : os.Started) (H : Type) (enc : TypeId × Value → H) :
    ReturnsInHanded {} Try.checked os 7 .any (Rows.opcodeAnswersSpec.pre6 enc Try.prog Try.f7 Rows.opcodeAnswersRow.domain false) (Rows.opcodeAnswersSpec.post enc Try.prog Try.f7 false true false false) := by
  refine returnsInHanded_of_change_sized (C := Try.checked) own started (by kernel_rfl) Try.func7
    (ChangeSpec.witness6 (enc := enc) (C := Try.checked) false ⟨#[], #[.agg #[.int .u8 0, .int .u8 0, .slice Option.none 0 0], .slice Option.none 0 0, .slice Option.none 0 0], []⟩ 8 (by kernel_rfl) (by kernel_rfl) (by kernel_rfl) (by kernel_rfl)) ?_
  intro W base args ds gs before hval0 hW hcnd hsz _
  have hval : ∀ (j : Nat) t v, Try.f7.params[j]? = some t → args[j]? = some v → Value.okWide Try.prog W .any base t v := hval0
  have hW' := hW
  obtain ⟨p, q, hA0, hV, rfl, hfz, hnd⟩ := hW
  have hA : DataW.TrodAll enc Try.prog W 0 (fun _ => true) true Try.f7.params.toList args.toList ds p := hA0
  rw [Try.params7] at hA hval
  obtain ⟨v0, vs0, d0, ds0, p0, q0, hargs, rfl, rfl, h0, r0⟩ := trodAll_cons hA
  obtain ⟨v1, vs1, d1, ds1, p1, q1, rfl, rfl, rfl, h1, r1⟩ := trodAll_cons r0
  obtain ⟨v2, vs2, d2, ds2, p2, q2, rfl, rfl, rfl, h2, r2⟩ := trodAll_cons r1
  obtain ⟨rfl, rfl, rfl⟩ := trodAll_nil r2
  obtain rfl : args = #[v0, v1, v2] := by cases args; simp_all
  obtain ⟨rfl, rfl⟩ := trodVars_none hV
  have k0 := h0
  have lt0 : ∀ x ∈ p0, x.block < W.heap.size := by obtain ⟨m, hm⟩ := k0; exact DataW.trod_lt m _ _ _ hm
  obtain ⟨s0, iv0, rfl, b0⟩ := open_resp (hval 0 58 v0 rfl rfl) h0
  have k1 := h1
  have lt1 : ∀ x ∈ p1, x.block < W.heap.size := by obtain ⟨m, hm⟩ := k1; exact DataW.trod_lt m _ _ _ hm
  obtain ⟨l1, b1, n1⟩ := open_bytes Try.underlying23 Try.underlying5 (by kernel_rfl) (hval 1 23 v1 rfl rfl) h1
  have k2 := h2
  have lt2 : ∀ x ∈ p2, x.block < W.heap.size := by obtain ⟨m, hm⟩ := k2; exact DataW.trod_lt m _ _ _ hm
  obtain ⟨l2, b2⟩ := open_words Try.underlying59 Try.underlying22 (by kernel_rfl) (hval 2 59 v2 rfl rfl) h2
  clear hA0 hval0 hsz
  refine (walk_OpcodeAnswers W s0 iv0 b0 v1 l1 b1 v2 l2 b2).mono fun e W' ⟨he, bel⟩ => ?_
  subst he
  exact ⟨_, rfl, _, _, _, [], _, [], hW', trodAll_mk1 (shut_bool Try.underlying4 _), (trodAll_cons_mk (Below.trod laidOut (by kernel_rfl) (of_decide_eq_true (by kernel_rfl)) k0 bel lt0) (trodAll_cons_mk (Below.trod laidOut (by kernel_rfl) (of_decide_eq_true (by kernel_rfl)) k1 bel lt1) (trodAll_cons_mk (Below.trod laidOut (by kernel_rfl) (of_decide_eq_true (by kernel_rfl)) k2 bel lt2) trodAll_mk0))), rfl, bel.frame _, fun h => by cases h⟩

theorem over : Rows.opcodeAnswersRow.holds Try.pinned (OpenSpec.ofChange Rows.opcodeAnswersSpec) :=
  OpenClaim.holds_of_wide 7 Try.f7 rfl rfl rfl rfl rfl rfl rfl ⟨rfl, rfl, rfl, rfl, rfl⟩ rfl rfl rfl rfl rfl (by kernel_rfl) Try.func7 (by kernel_rfl)
    (of_decide_eq_true (by kernel_rfl)) (by unfold Func.isWrapper; first | (rw [if_pos (by decide +kernel)]; kernel_rfl) | (rw [if_neg (by decide +kernel)]; exact ⟨rfl, rfl⟩))
    (fun os started H enc _ => lifted os started H enc)

theorem proved : Rows.OpcodeAnswersSaid := over
end lawOpcodeAnswers
end Go.Proofs.Ytdieaegajahdpaa
