/- opcode: the document's bytes of a request. -/
import Derived.Test.YtdieaegajahdpaaOpc8
namespace Go.Proofs.Ytdieaegajahdpaa
open Go.ChangeShapes Go.WideShapes Go.ChangeAt Go.RowKit
set_option linter.unusedVariables false
set_option linter.unusedSimpArgs false

set_option maxRecDepth 100000 in
set_option maxHeartbeats 16000000 in
theorem renc_2 (ty : UInt8) (sz : Nat) (dl : List UInt8) (dv : Value) (w : World) (hsz : sz < 4294967296) (h : IsBytes w dv dl) (hlen : dl.length ≤ 1000000) (hEB : dl.length = 0 → encBytes ⟨2, ty, sz, dl⟩ = [2, b4 sz 0, b4 sz 1]) :
    Calls Try.prog 23 #[.agg (reqCells ⟨2, ty, sz, dl⟩ dv)] w (REncEnd (decide (ty = 0 ∧ sz < 65536 ∧ dl.length = 0)) (encBytes ⟨2, ty, sz, dl⟩) w) := by
  have hu := Try.underlying23
  have Hd := hide h
  obtain ⟨da, dc, rfl, hdc, hdm, _, _⟩ := h
  unfold maxLen at hdm
  have hw0 := (on_all w).alloc (.cells (reqCells ⟨2, ty, sz, dl⟩ (.slice da dl.length dc)) 49)
  have hs0 := (Str.refl w).alloc (.cells (reqCells ⟨2, ty, sz, dl⟩ (.slice da dl.length dc)) 49)
  have hw1 := own_new 5 1 1 (vbs [2]) hw0 rfl (by decide)
  have hv1 : (vbs [2]).toArray = #[vb 2] := rfl
  rw [hv1] at hw1
  simp only [World.size_alloc] at hw1
  have hs1 := hs0.alloc (.cells #[vb 2] 5)
  have g0 := on_blk_mul hw0
  have g1 := on_blk_mul hw1.right
  have q0 : _ = some (vb 2) := cell_of_row _ w.heap.size 0 _ _ _ g0
  have q1 : _ = some (vb ty) := cell_of_row _ w.heap.size 1 _ _ _ g1
  have q2 : _ = some (u32v sz) := cell_of_row _ w.heap.size 2 _ _ _ g1
  have q3 : _ = some (Value.slice da dl.length dc) := cell_of_row _ w.heap.size 3 _ _ _ g1
  have q4 : _ = some (vb 2) := cell_of_row _ w.heap.size 0 _ _ _ g1
  have H1 := hide hw1
  have HS1 := hide hs1
  clear hw0 hs0 hw1 hv1 hs1 g0 g1
  by_cases pt : ty = 0
  · by_cases ps : sz = 0
    · have plt : sz < 65536 := by omega
      by_cases pd : dl.length = 0
      · have hk2 : decide (ty = 0 ∧ sz < 65536 ∧ dl.length = 0) = true := decide_eq_true ⟨pt, plt, pd⟩
        rw [hk2]
        clear hk2
        have T0 : (((ty.toNat : Nat) : Int) == 0) = true := by rw [pt]; rfl
        have S0 : ((sz : Int) == 0) = true := by rw [ps]; rfl
        have L0 : decide ((sz : Int) < 65536) = true := by simp; omega
        have D0 : ((dl.length : Int) == 0) = true := by rw [pd]; rfl
        have DG : decide (0 < dl.length) = false := decide_eq_false (by omega)
        have EB := hide (hEB pd)
        clear hEB
        clear pt
        clear ps
        clear plt
        clear pd
        go_enter Try.func23, Try.ntmps23
        go_wp2_with (first
          | (at_builtin; refine wpList_append_bytes (F := (EF w ⟨2, ty, sz, dl⟩ (.slice da dl.length dc))) rfl _ _ 23 rfl 5 hu infoR _ [2] [b4 sz 0] rfl (H1.out.alloc' _) _ rfl (isb1k _ _ (by simp) _ _ (by first | exact b4v0 _ | simp [vb, b4_toNat]) _) (by simp) ?_; intro v2 w2 ho hs; simp only [List.cons_append, List.nil_append] at ho; have H2 := hide ho; have HS2 := hide ((HS1.out.alloc _).trans hs); have r0 : _ = some (vb 2) := cell_of_row _ w.heap.size 0 _ _ _ (on_blk_mul ho.right); have r1 : _ = some (vb ty) := cell_of_row _ w.heap.size 1 _ _ _ (on_blk_mul ho.right); have r2 : _ = some (u32v sz) := cell_of_row _ w.heap.size 2 _ _ _ (on_blk_mul ho.right); have r3 : _ = some (Value.slice da dl.length dc) := cell_of_row _ w.heap.size 3 _ _ _ (on_blk_mul ho.right); obtain ⟨oa2, oc2, rfl, _, _, _, _⟩ := own_value ho; clear ho hs))
        refine wp_region_app 6 [isV (.slice oa2 2 oc2), isV (.pointer (some ⟨w.heap.size, 2, Option.none⟩)), isV (u32v sz), isV (.int .u32 ((sz : Int) / 256)), isV (.int .u8 ((sz : Int) / 256 % 256)), (fun v X => IsBytes X v [b4 sz 1]), (fun _ _ => True), isV (.pointer (some ⟨w.heap.size, 1, Option.none⟩)), isV (vb ty), isV (.bool true), isV (.bool true), isV (.pointer (some ⟨w.heap.size, 2, Option.none⟩)), isV (u32v sz), isV (.bool true), isV (.bool true), isV (.bool true), isV (.pointer (some ⟨w.heap.size, 3, Option.none⟩)), isV (.slice da dl.length dc), isV (.int .i64 ((dl.length : Nat) : Int)), isV (.bool true), isV (.bool true), (fun _ _ => False), isV (.bool true)]
          [isV (.slice oa2 2 oc2), isV (.pointer (some ⟨w.heap.size, 2, Option.none⟩)), isV (u32v sz), isV (.int .u32 ((sz : Int) / 256)), isV (.int .u8 ((sz : Int) / 256 % 256)), (fun _ _ => True), (fun v X => (ownR v [2, b4 sz 0, b4 sz 1] * (EF w ⟨2, ty, sz, dl⟩ (.slice da dl.length dc))).on X), isV (.pointer (some ⟨w.heap.size, 1, Option.none⟩)), isV (vb ty), isV (.bool true), isV (.bool true), isV (.pointer (some ⟨w.heap.size, 2, Option.none⟩)), isV (u32v sz), isV (.bool true), isV (.bool true), isV (.bool true), isV (.pointer (some ⟨w.heap.size, 3, Option.none⟩)), isV (.slice da dl.length dc), isV (.int .i64 ((dl.length : Nat) : Int)), isV (.bool true), isV (.bool true), (fun v X => (ownR v [2, b4 sz 0, b4 sz 1] * (EF w ⟨2, ty, sz, dl⟩ (.slice da dl.length dc))).on X), isV (.bool true)] _ rfl (by kernel_rfl) (by kernel_rfl) rfl (by decide) (EIv (ownR (.slice oa2 2 oc2) [2, b4 sz 0]) w ⟨2, ty, sz, dl⟩ (.slice da dl.length dc)) ⟨SP.on.drew H2.out, Str.drew HS2.out⟩ EIv.stay ?keep ?keep2 ?store ?todo ?rest
        case keep => exact ⟨Keep.isV _, Keep.isV _, Keep.isV _, Keep.isV _, Keep.isV _, fun _ _ _ h k => IsBytes.below h k, fun _ _ _ h _ => h, Keep.isV _, Keep.isV _, Keep.isV _, Keep.isV _, Keep.isV _, Keep.isV _, Keep.isV _, Keep.isV _, Keep.isV _, Keep.isV _, Keep.isV _, Keep.isV _, Keep.isV _, Keep.isV _, fun _ _ _ h _ => h, Keep.isV _, trivial⟩
        case keep2 => exact ⟨Keep.isV _, Keep.isV _, Keep.isV _, Keep.isV _, Keep.isV _, fun _ _ _ h _ => h, fun _ _ _ h k => SP.on.below h k, Keep.isV _, Keep.isV _, Keep.isV _, Keep.isV _, Keep.isV _, Keep.isV _, Keep.isV _, Keep.isV _, Keep.isV _, Keep.isV _, Keep.isV _, Keep.isV _, Keep.isV _, Keep.isV _, fun _ _ _ h k => SP.on.below h k, Keep.isV _, trivial⟩
        case store =>
          intro ev X hT hb hk hf
          have e0 : ev (.tmp 79) = .slice oa2 2 oc2 := hf.1
          have e1 : IsBytes X (ev (.tmp 84)) [b4 sz 1] := hf.2.1
          refine OpOk.append_bytes (F := (EF w ⟨2, ty, sz, dl⟩ (.slice da dl.length dc))) _ _ _ rfl 5 hu infoR _ [2, b4 sz 0] [b4 sz 1] e0 hT.1 e1 (by simp) ?_
          intro v' X2 ho hs
          simp only [List.cons_append, List.nil_append] at ho
          refine ⟨⟨ho.right, hT.2.trans hs⟩, ho, ?_⟩
          intro i his hv
          match i, his, hv with
          | 0, _, hv => exact hv
          | 1, _, hv => exact hv
          | 2, _, hv => exact hv
          | 3, _, hv => exact hv
          | 4, _, hv => exact hv
          | 5, _, _ => exact trivial
          | 6, h, _ => exact absurd rfl h
          | 7, _, hv => exact hv
          | 8, _, hv => exact hv
          | 9, _, hv => exact hv
          | 10, _, hv => exact hv
          | 11, _, hv => exact hv
          | 12, _, hv => exact hv
          | 13, _, hv => exact hv
          | 14, _, hv => exact hv
          | 15, _, hv => exact hv
          | 16, _, hv => exact hv
          | 17, _, hv => exact hv
          | 18, _, hv => exact hv
          | 19, _, hv => exact hv
          | 20, _, hv => exact hv
          | 21, _, hv => exact hv.elim
          | 22, _, hv => exact hv
          | n + 23, _, _ => exact trivial
        case todo =>
          refine ⟨?_, ?_, ?_, ?_, ?_, ?_, ?_, ?_, ?_, ?_, ?_, ?_, ?_, ?_, ?_, ?_, ?_, ?_, ?_, ?_, ?_, ?_, ?_, trivial⟩
          · intro _ ph h1 h2
            obtain rfl : ph = false := h2 (by kernel_rfl)
            intro ev X hT hb hk hf
            have e0 : ev (.tmp 4) = .slice oa2 2 oc2 := hk.1
            exact OpOk.move rfl e0 ⟨rfl, Stay.refl _⟩
          · intro _ ph h1 h2
            cases ph
            all_goals
              intro ev X hT hb hk hf
              have e0 : ev (.tmp 1) = .pointer (some ⟨w.heap.size, 0, Option.none⟩) := hk.1
              exact OpOk.run (v := .pointer (some ⟨w.heap.size, 2, Option.none⟩)) (W' := X) (by simp [execOp, e0, hb.1, go_sem]) ⟨rfl, Stay.refl _⟩
          · intro _ ph h1 h2
            cases ph
            all_goals
              intro ev X hT hb hk hf
              have e0 : ev (.tmp 80) = .pointer (some ⟨w.heap.size, 2, Option.none⟩) := hf.1
              have cW := EIv.cell hT 2 rfl
              exact OpOk.run (v := u32v sz) (W' := X) (by simp [execOp, e0, cW, go_sem]) ⟨rfl, Stay.refl _⟩
          · intro _ ph h1 h2
            cases ph
            all_goals
              intro ev X hT hb hk hf
              have e0 : ev (.tmp 81) = u32v sz := hf.1
              exact OpOk.run (v := .int .u32 ((sz : Int) / 256)) (W' := X) (by simp [execOp, e0, hb.1, go_sem]) ⟨rfl, Stay.refl _⟩
          · intro _ ph h1 h2
            cases ph
            all_goals
              intro ev X hT hb hk hf
              have e0 : ev (.tmp 82) = .int .u32 ((sz : Int) / 256) := hf.1
              exact OpOk.run (v := .int .u8 ((sz : Int) / 256 % 256)) (W' := X) (by simp [execOp, e0, hb.1, go_sem, IntKind.wrap_u8]) ⟨rfl, Stay.refl _⟩
          · intro _ ph h1 h2
            obtain rfl : ph = false := h2 (by kernel_rfl)
            intro ev X hT hb hk hf
            have e0 : ev (.tmp 83) = .int .u8 ((sz : Int) / 256 % 256) := hf.1
            exact OpOk.run (v := .slice (some ⟨X.heap.size, 0, Option.none⟩) 1 1) (W' := X.alloc (.cells #[.int .u8 ((sz : Int) / 256 % 256)] 5)) (by simp [execOp, e0, go_sem]) ⟨isb1 _ _ _ (b4v1 _) _, (Below.refl _ _).alloc (Nat.le_refl _) _⟩
          · exact fun h => absurd rfl h
          · intro _ ph h1 h2
            cases ph
            all_goals
              intro ev X hT hb hk hf
              have e0 : ev (.tmp 1) = .pointer (some ⟨w.heap.size, 0, Option.none⟩) := hk.1
              exact OpOk.run (v := .pointer (some ⟨w.heap.size, 1, Option.none⟩)) (W' := X) (by simp [execOp, e0, hb.1, go_sem]) ⟨rfl, Stay.refl _⟩
          · intro _ ph h1 h2
            cases ph
            all_goals
              intro ev X hT hb hk hf
              have e0 : ev (.tmp 86) = .pointer (some ⟨w.heap.size, 1, Option.none⟩) := hf.1
              have cW := EIv.cell hT 1 rfl
              exact OpOk.run (v := vb ty) (W' := X) (by simp [execOp, e0, cW, go_sem]) ⟨rfl, Stay.refl _⟩
          · intro _ ph h1 h2
            cases ph
            all_goals
              intro ev X hT hb hk hf
              have e0 : ev (.tmp 87) = vb ty := hf.1
              exact OpOk.run (v := .bool true) (W' := X) (by simp [execOp, e0, hb.1, T0, go_sem]) ⟨rfl, Stay.refl _⟩
          · intro _ ph h1 h2
            obtain rfl : ph = true := h1 (by kernel_rfl)
            intro ev X hT hb hk hf
            have e0 : ev (.tmp 88) = .bool true := hf.1
            exact OpOk.move rfl e0 ⟨rfl, Stay.refl _⟩
          · intro _ ph h1 h2
            cases ph
            all_goals
              intro ev X hT hb hk hf
              refine ⟨true, hf.1, fun _ => ?_, fun h => (h rfl).elim⟩
              have e0 : ev (.tmp 1) = .pointer (some ⟨w.heap.size, 0, Option.none⟩) := hk.1
              exact OpOk.run (v := .pointer (some ⟨w.heap.size, 2, Option.none⟩)) (W' := X) (by simp [execOp, e0, hb.1, go_sem]) ⟨rfl, Stay.refl _⟩
          · intro _ ph h1 h2
            cases ph
            all_goals
              intro ev X hT hb hk hf
              refine ⟨true, hf.2.1, fun _ => ?_, fun h => (h rfl).elim⟩
              have e0 : ev (.tmp 90) = .pointer (some ⟨w.heap.size, 2, Option.none⟩) := hf.1
              have cW := EIv.cell hT 2 rfl
              exact OpOk.run (v := u32v sz) (W' := X) (by simp [execOp, e0, cW, go_sem]) ⟨rfl, Stay.refl _⟩
          · intro _ ph h1 h2
            cases ph
            all_goals
              intro ev X hT hb hk hf
              refine ⟨true, hf.2.1, fun _ => ?_, fun h => (h rfl).elim⟩
              have e0 : ev (.tmp 91) = u32v sz := hf.1
              exact OpOk.run (v := .bool true) (W' := X) (by simp [execOp, e0, hb.1, L0, go_sem]) ⟨rfl, Stay.refl _⟩
          · intro _ ph h1 h2
            cases ph
            all_goals
              intro ev X hT hb hk hf
              have e0 : ev (.tmp 89) = .bool true := hf.1
              have e1 : ev (.tmp 92) = .bool true := hf.2.1
              exact OpOk.run (v := .bool true) (W' := X) (by simp [execOp, e0, e1, hb, hb.1, hb.2.1, hb.2.2, go_sem]) ⟨rfl, Stay.refl _⟩
          · intro _ ph h1 h2
            cases ph
            all_goals
              intro ev X hT hb hk hf
              have e0 : ev (.tmp 93) = .bool true := hf.1
              exact OpOk.move rfl e0 ⟨rfl, Stay.refl _⟩
          · intro _ ph h1 h2
            cases ph
            all_goals
              intro ev X hT hb hk hf
              refine ⟨true, hf.1, fun _ => ?_, fun h => (h rfl).elim⟩
              have e0 : ev (.tmp 1) = .pointer (some ⟨w.heap.size, 0, Option.none⟩) := hk.1
              exact OpOk.run (v := .pointer (some ⟨w.heap.size, 3, Option.none⟩)) (W' := X) (by simp [execOp, e0, hb.1, go_sem]) ⟨rfl, Stay.refl _⟩
          · intro _ ph h1 h2
            cases ph
            all_goals
              intro ev X hT hb hk hf
              refine ⟨true, hf.2.1, fun _ => ?_, fun h => (h rfl).elim⟩
              have e0 : ev (.tmp 95) = .pointer (some ⟨w.heap.size, 3, Option.none⟩) := hf.1
              have cW := EIv.cell hT 3 rfl
              exact OpOk.run (v := .slice da dl.length dc) (W' := X) (by simp [execOp, e0, cW, go_sem]) ⟨rfl, Stay.refl _⟩
          · intro _ ph h1 h2
            cases ph
            all_goals
              intro ev X hT hb hk hf
              refine ⟨true, hf.2.1, fun _ => ?_, fun h => (h rfl).elim⟩
              have e0 : ev (.tmp 96) = .slice da dl.length dc := hf.1
              exact OpOk.run (v := .int .i64 ((dl.length : Nat) : Int)) (W' := X) (by simp [execOp, e0, hb.1, go_sem]) ⟨rfl, Stay.refl _⟩
          · intro _ ph h1 h2
            cases ph
            all_goals
              intro ev X hT hb hk hf
              refine ⟨true, hf.2.1, fun _ => ?_, fun h => (h rfl).elim⟩
              have e0 : ev (.tmp 97) = .int .i64 ((dl.length : Nat) : Int) := hf.1
              exact OpOk.run (v := .bool true) (W' := X) (by simp [execOp, e0, hb.1, D0, go_sem]) ⟨rfl, Stay.refl _⟩
          · intro _ ph h1 h2
            cases ph
            all_goals
              intro ev X hT hb hk hf
              have e0 : ev (.tmp 94) = .bool true := hf.1
              have e1 : ev (.tmp 98) = .bool true := hf.2.1
              exact OpOk.run (v := .bool true) (W' := X) (by simp [execOp, e0, e1, hb, hb.1, hb.2.1, hb.2.2, go_sem]) ⟨rfl, Stay.refl _⟩
          · intro _ ph h1 h2
            obtain rfl : ph = true := h1 (by kernel_rfl)
            intro ev X hT hb hk hf
            have e0 := hf.1
            exact OpOk.assign rfl rfl ⟨e0, Stay.refl _⟩
          · intro _ ph h1 h2
            obtain rfl : ph = true := h1 (by kernel_rfl)
            intro ev X hT hb hk hf
            have e0 : ev (.tmp 99) = .bool true := hf.1
            exact OpOk.assign rfl e0 ⟨rfl, Stay.refl _⟩
        case rest =>
          intro X hT
          rintro _ rfl _ rfl _ rfl _ rfl _ rfl _ - _ - _ rfl _ rfl _ rfl _ rfl _ rfl _ rfl _ rfl _ rfl _ rfl _ rfl _ rfl _ rfl _ rfl _ rfl vo ho _ rfl
          obtain ⟨xa, xc, rfl, _, _, _, _⟩ := own_value ho
          have HO := hide ho
          have HST := hide hT
          clear ho hT
          go_wp2
          refine Rest.done ?_
          go_wp2_with fail
          go_ret2
          exact ⟨_, rfl, fun _ => by rw [EB.out]; exact own_bytes HO.out, all_below HST.out.1.right HST.out.2⟩
      · have hk2 : decide (ty = 0 ∧ sz < 65536 ∧ dl.length = 0) = false := decide_eq_false (fun h => pd h.2.2)
        rw [hk2]
        clear hk2
        have T0 : (((ty.toNat : Nat) : Int) == 0) = true := by rw [pt]; rfl
        have S0 : ((sz : Int) == 0) = true := by rw [ps]; rfl
        have L0 : decide ((sz : Int) < 65536) = true := by simp; omega
        have D0 : ((dl.length : Int) == 0) = false := by rw [beq_eq_false_iff_ne]; omega
        have DG : decide (0 < dl.length) = true := decide_eq_true (by omega)
        clear hEB
        clear pt
        clear ps
        clear plt
        clear pd
        go_enter Try.func23, Try.ntmps23
        go_wp2_with (first
          | (at_builtin; refine wpList_append_bytes (F := (EF w ⟨2, ty, sz, dl⟩ (.slice da dl.length dc))) rfl _ _ 23 rfl 5 hu infoR _ [2] [b4 sz 0] rfl (H1.out.alloc' _) _ rfl (isb1k _ _ (by simp) _ _ (by first | exact b4v0 _ | simp [vb, b4_toNat]) _) (by simp) ?_; intro v2 w2 ho hs; simp only [List.cons_append, List.nil_append] at ho; have H2 := hide ho; have HS2 := hide ((HS1.out.alloc _).trans hs); have r0 : _ = some (vb 2) := cell_of_row _ w.heap.size 0 _ _ _ (on_blk_mul ho.right); have r1 : _ = some (vb ty) := cell_of_row _ w.heap.size 1 _ _ _ (on_blk_mul ho.right); have r2 : _ = some (u32v sz) := cell_of_row _ w.heap.size 2 _ _ _ (on_blk_mul ho.right); have r3 : _ = some (Value.slice da dl.length dc) := cell_of_row _ w.heap.size 3 _ _ _ (on_blk_mul ho.right); obtain ⟨oa2, oc2, rfl, _, _, _, _⟩ := own_value ho; clear ho hs))
        refine wp_region_app 6 [isV (.slice oa2 2 oc2), isV (.pointer (some ⟨w.heap.size, 2, Option.none⟩)), isV (u32v sz), isV (.int .u32 ((sz : Int) / 256)), isV (.int .u8 ((sz : Int) / 256 % 256)), (fun v X => IsBytes X v [b4 sz 1]), (fun _ _ => True), isV (.pointer (some ⟨w.heap.size, 1, Option.none⟩)), isV (vb ty), isV (.bool true), isV (.bool true), isV (.pointer (some ⟨w.heap.size, 2, Option.none⟩)), isV (u32v sz), isV (.bool true), isV (.bool true), isV (.bool true), isV (.pointer (some ⟨w.heap.size, 3, Option.none⟩)), isV (.slice da dl.length dc), isV (.int .i64 ((dl.length : Nat) : Int)), isV (.bool false), isV (.bool false), (fun _ _ => False), isV (.bool false)]
          [isV (.slice oa2 2 oc2), isV (.pointer (some ⟨w.heap.size, 2, Option.none⟩)), isV (u32v sz), isV (.int .u32 ((sz : Int) / 256)), isV (.int .u8 ((sz : Int) / 256 % 256)), (fun _ _ => True), (fun v X => (ownR v [2, b4 sz 0, b4 sz 1] * (EF w ⟨2, ty, sz, dl⟩ (.slice da dl.length dc))).on X), isV (.pointer (some ⟨w.heap.size, 1, Option.none⟩)), isV (vb ty), isV (.bool true), isV (.bool true), isV (.pointer (some ⟨w.heap.size, 2, Option.none⟩)), isV (u32v sz), isV (.bool true), isV (.bool true), isV (.bool true), isV (.pointer (some ⟨w.heap.size, 3, Option.none⟩)), isV (.slice da dl.length dc), isV (.int .i64 ((dl.length : Nat) : Int)), isV (.bool false), isV (.bool false), (fun v X => (ownR v [2, b4 sz 0, b4 sz 1] * (EF w ⟨2, ty, sz, dl⟩ (.slice da dl.length dc))).on X), isV (.bool false)] _ rfl (by kernel_rfl) (by kernel_rfl) rfl (by decide) (EIv (ownR (.slice oa2 2 oc2) [2, b4 sz 0]) w ⟨2, ty, sz, dl⟩ (.slice da dl.length dc)) ⟨SP.on.drew H2.out, Str.drew HS2.out⟩ EIv.stay ?keep ?keep2 ?store ?todo ?rest
        case keep => exact ⟨Keep.isV _, Keep.isV _, Keep.isV _, Keep.isV _, Keep.isV _, fun _ _ _ h k => IsBytes.below h k, fun _ _ _ h _ => h, Keep.isV _, Keep.isV _, Keep.isV _, Keep.isV _, Keep.isV _, Keep.isV _, Keep.isV _, Keep.isV _, Keep.isV _, Keep.isV _, Keep.isV _, Keep.isV _, Keep.isV _, Keep.isV _, fun _ _ _ h _ => h, Keep.isV _, trivial⟩
        case keep2 => exact ⟨Keep.isV _, Keep.isV _, Keep.isV _, Keep.isV _, Keep.isV _, fun _ _ _ h _ => h, fun _ _ _ h k => SP.on.below h k, Keep.isV _, Keep.isV _, Keep.isV _, Keep.isV _, Keep.isV _, Keep.isV _, Keep.isV _, Keep.isV _, Keep.isV _, Keep.isV _, Keep.isV _, Keep.isV _, Keep.isV _, Keep.isV _, fun _ _ _ h k => SP.on.below h k, Keep.isV _, trivial⟩
        case store =>
          intro ev X hT hb hk hf
          have e0 : ev (.tmp 79) = .slice oa2 2 oc2 := hf.1
          have e1 : IsBytes X (ev (.tmp 84)) [b4 sz 1] := hf.2.1
          refine OpOk.append_bytes (F := (EF w ⟨2, ty, sz, dl⟩ (.slice da dl.length dc))) _ _ _ rfl 5 hu infoR _ [2, b4 sz 0] [b4 sz 1] e0 hT.1 e1 (by simp) ?_
          intro v' X2 ho hs
          simp only [List.cons_append, List.nil_append] at ho
          refine ⟨⟨ho.right, hT.2.trans hs⟩, ho, ?_⟩
          intro i his hv
          match i, his, hv with
          | 0, _, hv => exact hv
          | 1, _, hv => exact hv
          | 2, _, hv => exact hv
          | 3, _, hv => exact hv
          | 4, _, hv => exact hv
          | 5, _, _ => exact trivial
          | 6, h, _ => exact absurd rfl h
          | 7, _, hv => exact hv
          | 8, _, hv => exact hv
          | 9, _, hv => exact hv
          | 10, _, hv => exact hv
          | 11, _, hv => exact hv
          | 12, _, hv => exact hv
          | 13, _, hv => exact hv
          | 14, _, hv => exact hv
          | 15, _, hv => exact hv
          | 16, _, hv => exact hv
          | 17, _, hv => exact hv
          | 18, _, hv => exact hv
          | 19, _, hv => exact hv
          | 20, _, hv => exact hv
          | 21, _, hv => exact hv.elim
          | 22, _, hv => exact hv
          | n + 23, _, _ => exact trivial
        case todo =>
          refine ⟨?_, ?_, ?_, ?_, ?_, ?_, ?_, ?_, ?_, ?_, ?_, ?_, ?_, ?_, ?_, ?_, ?_, ?_, ?_, ?_, ?_, ?_, ?_, trivial⟩
          · intro _ ph h1 h2
            obtain rfl : ph = false := h2 (by kernel_rfl)
            intro ev X hT hb hk hf
            have e0 : ev (.tmp 4) = .slice oa2 2 oc2 := hk.1
            exact OpOk.move rfl e0 ⟨rfl, Stay.refl _⟩
          · intro _ ph h1 h2
            cases ph
            all_goals
              intro ev X hT hb hk hf
              have e0 : ev (.tmp 1) = .pointer (some ⟨w.heap.size, 0, Option.none⟩) := hk.1
              exact OpOk.run (v := .pointer (some ⟨w.heap.size, 2, Option.none⟩)) (W' := X) (by simp [execOp, e0, hb.1, go_sem]) ⟨rfl, Stay.refl _⟩
          · intro _ ph h1 h2
            cases ph
            all_goals
              intro ev X hT hb hk hf
              have e0 : ev (.tmp 80) = .pointer (some ⟨w.heap.size, 2, Option.none⟩) := hf.1
              have cW := EIv.cell hT 2 rfl
              exact OpOk.run (v := u32v sz) (W' := X) (by simp [execOp, e0, cW, go_sem]) ⟨rfl, Stay.refl _⟩
          · intro _ ph h1 h2
            cases ph
            all_goals
              intro ev X hT hb hk hf
              have e0 : ev (.tmp 81) = u32v sz := hf.1
              exact OpOk.run (v := .int .u32 ((sz : Int) / 256)) (W' := X) (by simp [execOp, e0, hb.1, go_sem]) ⟨rfl, Stay.refl _⟩
          · intro _ ph h1 h2
            cases ph
            all_goals
              intro ev X hT hb hk hf
              have e0 : ev (.tmp 82) = .int .u32 ((sz : Int) / 256) := hf.1
              exact OpOk.run (v := .int .u8 ((sz : Int) / 256 % 256)) (W' := X) (by simp [execOp, e0, hb.1, go_sem, IntKind.wrap_u8]) ⟨rfl, Stay.refl _⟩
          · intro _ ph h1 h2
            obtain rfl : ph = false := h2 (by kernel_rfl)
            intro ev X hT hb hk hf
            have e0 : ev (.tmp 83) = .int .u8 ((sz : Int) / 256 % 256) := hf.1
            exact OpOk.run (v := .slice (some ⟨X.heap.size, 0, Option.none⟩) 1 1) (W' := X.alloc (.cells #[.int .u8 ((sz : Int) / 256 % 256)] 5)) (by simp [execOp, e0, go_sem]) ⟨isb1 _ _ _ (b4v1 _) _, (Below.refl _ _).alloc (Nat.le_refl _) _⟩
          · exact fun h => absurd rfl h
          · intro _ ph h1 h2
            cases ph
            all_goals
              intro ev X hT hb hk hf
              have e0 : ev (.tmp 1) = .pointer (some ⟨w.heap.size, 0, Option.none⟩) := hk.1
              exact OpOk.run (v := .pointer (some ⟨w.heap.size, 1, Option.none⟩)) (W' := X) (by simp [execOp, e0, hb.1, go_sem]) ⟨rfl, Stay.refl _⟩
          · intro _ ph h1 h2
            cases ph
            all_goals
              intro ev X hT hb hk hf
              have e0 : ev (.tmp 86) = .pointer (some ⟨w.heap.size, 1, Option.none⟩) := hf.1
              have cW := EIv.cell hT 1 rfl
              exact OpOk.run (v := vb ty) (W' := X) (by simp [execOp, e0, cW, go_sem]) ⟨rfl, Stay.refl _⟩
          · intro _ ph h1 h2
            cases ph
            all_goals
              intro ev X hT hb hk hf
              have e0 : ev (.tmp 87) = vb ty := hf.1
              exact OpOk.run (v := .bool true) (W' := X) (by simp [execOp, e0, hb.1, T0, go_sem]) ⟨rfl, Stay.refl _⟩
          · intro _ ph h1 h2
            obtain rfl : ph = true := h1 (by kernel_rfl)
            intro ev X hT hb hk hf
            have e0 : ev (.tmp 88) = .bool true := hf.1
            exact OpOk.move rfl e0 ⟨rfl, Stay.refl _⟩
          · intro _ ph h1 h2
            cases ph
            all_goals
              intro ev X hT hb hk hf
              refine ⟨true, hf.1, fun _ => ?_, fun h => (h rfl).elim⟩
              have e0 : ev (.tmp 1) = .pointer (some ⟨w.heap.size, 0, Option.none⟩) := hk.1
              exact OpOk.run (v := .pointer (some ⟨w.heap.size, 2, Option.none⟩)) (W' := X) (by simp [execOp, e0, hb.1, go_sem]) ⟨rfl, Stay.refl _⟩
          · intro _ ph h1 h2
            cases ph
            all_goals
              intro ev X hT hb hk hf
              refine ⟨true, hf.2.1, fun _ => ?_, fun h => (h rfl).elim⟩
              have e0 : ev (.tmp 90) = .pointer (some ⟨w.heap.size, 2, Option.none⟩) := hf.1
              have cW := EIv.cell hT 2 rfl
              exact OpOk.run (v := u32v sz) (W' := X) (by simp [execOp, e0, cW, go_sem]) ⟨rfl, Stay.refl _⟩
          · intro _ ph h1 h2
            cases ph
            all_goals
              intro ev X hT hb hk hf
              refine ⟨true, hf.2.1, fun _ => ?_, fun h => (h rfl).elim⟩
              have e0 : ev (.tmp 91) = u32v sz := hf.1
              exact OpOk.run (v := .bool true) (W' := X) (by simp [execOp, e0, hb.1, L0, go_sem]) ⟨rfl, Stay.refl _⟩
          · intro _ ph h1 h2
            cases ph
            all_goals
              intro ev X hT hb hk hf
              have e0 : ev (.tmp 89) = .bool true := hf.1
              have e1 : ev (.tmp 92) = .bool true := hf.2.1
              exact OpOk.run (v := .bool true) (W' := X) (by simp [execOp, e0, e1, hb, hb.1, hb.2.1, hb.2.2, go_sem]) ⟨rfl, Stay.refl _⟩
          · intro _ ph h1 h2
            cases ph
            all_goals
              intro ev X hT hb hk hf
              have e0 : ev (.tmp 93) = .bool true := hf.1
              exact OpOk.move rfl e0 ⟨rfl, Stay.refl _⟩
          · intro _ ph h1 h2
            cases ph
            all_goals
              intro ev X hT hb hk hf
              refine ⟨true, hf.1, fun _ => ?_, fun h => (h rfl).elim⟩
              have e0 : ev (.tmp 1) = .pointer (some ⟨w.heap.size, 0, Option.none⟩) := hk.1
              exact OpOk.run (v := .pointer (some ⟨w.heap.size, 3, Option.none⟩)) (W' := X) (by simp [execOp, e0, hb.1, go_sem]) ⟨rfl, Stay.refl _⟩
          · intro _ ph h1 h2
            cases ph
            all_goals
              intro ev X hT hb hk hf
              refine ⟨true, hf.2.1, fun _ => ?_, fun h => (h rfl).elim⟩
              have e0 : ev (.tmp 95) = .pointer (some ⟨w.heap.size, 3, Option.none⟩) := hf.1
              have cW := EIv.cell hT 3 rfl
              exact OpOk.run (v := .slice da dl.length dc) (W' := X) (by simp [execOp, e0, cW, go_sem]) ⟨rfl, Stay.refl _⟩
          · intro _ ph h1 h2
            cases ph
            all_goals
              intro ev X hT hb hk hf
              refine ⟨true, hf.2.1, fun _ => ?_, fun h => (h rfl).elim⟩
              have e0 : ev (.tmp 96) = .slice da dl.length dc := hf.1
              exact OpOk.run (v := .int .i64 ((dl.length : Nat) : Int)) (W' := X) (by simp [execOp, e0, hb.1, go_sem]) ⟨rfl, Stay.refl _⟩
          · intro _ ph h1 h2
            cases ph
            all_goals
              intro ev X hT hb hk hf
              refine ⟨true, hf.2.1, fun _ => ?_, fun h => (h rfl).elim⟩
              have e0 : ev (.tmp 97) = .int .i64 ((dl.length : Nat) : Int) := hf.1
              exact OpOk.run (v := .bool false) (W' := X) (by simp [execOp, e0, hb.1, D0, go_sem]) ⟨rfl, Stay.refl _⟩
          · intro _ ph h1 h2
            cases ph
            all_goals
              intro ev X hT hb hk hf
              have e0 : ev (.tmp 94) = .bool true := hf.1
              have e1 : ev (.tmp 98) = .bool false := hf.2.1
              exact OpOk.run (v := .bool false) (W' := X) (by simp [execOp, e0, e1, hb, hb.1, hb.2.1, hb.2.2, go_sem]) ⟨rfl, Stay.refl _⟩
          · intro _ ph h1 h2
            obtain rfl : ph = true := h1 (by kernel_rfl)
            intro ev X hT hb hk hf
            have e0 := hf.1
            exact OpOk.assign rfl rfl ⟨e0, Stay.refl _⟩
          · intro _ ph h1 h2
            obtain rfl : ph = true := h1 (by kernel_rfl)
            intro ev X hT hb hk hf
            have e0 : ev (.tmp 99) = .bool false := hf.1
            exact OpOk.assign rfl e0 ⟨rfl, Stay.refl _⟩
        case rest =>
          intro X hT
          rintro _ rfl _ rfl _ rfl _ rfl _ rfl _ - _ - _ rfl _ rfl _ rfl _ rfl _ rfl _ rfl _ rfl _ rfl _ rfl _ rfl _ rfl _ rfl _ rfl _ rfl vo ho _ rfl
          obtain ⟨xa, xc, rfl, _, _, _, _⟩ := own_value ho
          have HO := hide ho
          have HST := hide hT
          clear ho hT
          go_wp2
          refine Rest.done ?_
          go_wp2_with fail
          go_ret2
          exact ⟨_, rfl, (fun h => by cases h), all_below HST.out.1.right HST.out.2⟩
    · by_cases plt : sz < 65536
      · by_cases pd : dl.length = 0
        · have hk2 : decide (ty = 0 ∧ sz < 65536 ∧ dl.length = 0) = true := decide_eq_true ⟨pt, plt, pd⟩
          rw [hk2]
          clear hk2
          have T0 : (((ty.toNat : Nat) : Int) == 0) = true := by rw [pt]; rfl
          have S0 : ((sz : Int) == 0) = false := by rw [beq_eq_false_iff_ne]; omega
          have L0 : decide ((sz : Int) < 65536) = true := by simp; omega
          have D0 : ((dl.length : Int) == 0) = true := by rw [pd]; rfl
          have DG : decide (0 < dl.length) = false := decide_eq_false (by omega)
          have EB := hide (hEB pd)
          clear hEB
          clear pt
          clear ps
          clear plt
          clear pd
          go_enter Try.func23, Try.ntmps23
          go_wp2_with (first
            | (at_builtin; refine wpList_append_bytes (F := (EF w ⟨2, ty, sz, dl⟩ (.slice da dl.length dc))) rfl _ _ 23 rfl 5 hu infoR _ [2] [b4 sz 0] rfl (H1.out.alloc' _) _ rfl (isb1k _ _ (by simp) _ _ (by first | exact b4v0 _ | simp [vb, b4_toNat]) _) (by simp) ?_; intro v2 w2 ho hs; simp only [List.cons_append, List.nil_append] at ho; have H2 := hide ho; have HS2 := hide ((HS1.out.alloc _).trans hs); have r0 : _ = some (vb 2) := cell_of_row _ w.heap.size 0 _ _ _ (on_blk_mul ho.right); have r1 : _ = some (vb ty) := cell_of_row _ w.heap.size 1 _ _ _ (on_blk_mul ho.right); have r2 : _ = some (u32v sz) := cell_of_row _ w.heap.size 2 _ _ _ (on_blk_mul ho.right); have r3 : _ = some (Value.slice da dl.length dc) := cell_of_row _ w.heap.size 3 _ _ _ (on_blk_mul ho.right); obtain ⟨oa2, oc2, rfl, _, _, _, _⟩ := own_value ho; clear ho hs))
          refine wp_region_app 6 [isV (.slice oa2 2 oc2), isV (.pointer (some ⟨w.heap.size, 2, Option.none⟩)), isV (u32v sz), isV (.int .u32 ((sz : Int) / 256)), isV (.int .u8 ((sz : Int) / 256 % 256)), (fun v X => IsBytes X v [b4 sz 1]), (fun _ _ => True), isV (.pointer (some ⟨w.heap.size, 1, Option.none⟩)), isV (vb ty), isV (.bool true), isV (.bool true), isV (.pointer (some ⟨w.heap.size, 2, Option.none⟩)), isV (u32v sz), isV (.bool true), isV (.bool true), isV (.bool true), isV (.pointer (some ⟨w.heap.size, 3, Option.none⟩)), isV (.slice da dl.length dc), isV (.int .i64 ((dl.length : Nat) : Int)), isV (.bool true), isV (.bool true), (fun _ _ => False), isV (.bool true)]
            [isV (.slice oa2 2 oc2), isV (.pointer (some ⟨w.heap.size, 2, Option.none⟩)), isV (u32v sz), isV (.int .u32 ((sz : Int) / 256)), isV (.int .u8 ((sz : Int) / 256 % 256)), (fun _ _ => True), (fun v X => (ownR v [2, b4 sz 0, b4 sz 1] * (EF w ⟨2, ty, sz, dl⟩ (.slice da dl.length dc))).on X), isV (.pointer (some ⟨w.heap.size, 1, Option.none⟩)), isV (vb ty), isV (.bool true), isV (.bool true), isV (.pointer (some ⟨w.heap.size, 2, Option.none⟩)), isV (u32v sz), isV (.bool true), isV (.bool true), isV (.bool true), isV (.pointer (some ⟨w.heap.size, 3, Option.none⟩)), isV (.slice da dl.length dc), isV (.int .i64 ((dl.length : Nat) : Int)), isV (.bool true), isV (.bool true), (fun v X => (ownR v [2, b4 sz 0, b4 sz 1] * (EF w ⟨2, ty, sz, dl⟩ (.slice da dl.length dc))).on X), isV (.bool true)] _ rfl (by kernel_rfl) (by kernel_rfl) rfl (by decide) (EIv (ownR (.slice oa2 2 oc2) [2, b4 sz 0]) w ⟨2, ty, sz, dl⟩ (.slice da dl.length dc)) ⟨SP.on.drew H2.out, Str.drew HS2.out⟩ EIv.stay ?keep ?keep2 ?store ?todo ?rest
          case keep => exact ⟨Keep.isV _, Keep.isV _, Keep.isV _, Keep.isV _, Keep.isV _, fun _ _ _ h k => IsBytes.below h k, fun _ _ _ h _ => h, Keep.isV _, Keep.isV _, Keep.isV _, Keep.isV _, Keep.isV _, Keep.isV _, Keep.isV _, Keep.isV _, Keep.isV _, Keep.isV _, Keep.isV _, Keep.isV _, Keep.isV _, Keep.isV _, fun _ _ _ h _ => h, Keep.isV _, trivial⟩
          case keep2 => exact ⟨Keep.isV _, Keep.isV _, Keep.isV _, Keep.isV _, Keep.isV _, fun _ _ _ h _ => h, fun _ _ _ h k => SP.on.below h k, Keep.isV _, Keep.isV _, Keep.isV _, Keep.isV _, Keep.isV _, Keep.isV _, Keep.isV _, Keep.isV _, Keep.isV _, Keep.isV _, Keep.isV _, Keep.isV _, Keep.isV _, Keep.isV _, fun _ _ _ h k => SP.on.below h k, Keep.isV _, trivial⟩
          case store =>
            intro ev X hT hb hk hf
            have e0 : ev (.tmp 79) = .slice oa2 2 oc2 := hf.1
            have e1 : IsBytes X (ev (.tmp 84)) [b4 sz 1] := hf.2.1
            refine OpOk.append_bytes (F := (EF w ⟨2, ty, sz, dl⟩ (.slice da dl.length dc))) _ _ _ rfl 5 hu infoR _ [2, b4 sz 0] [b4 sz 1] e0 hT.1 e1 (by simp) ?_
            intro v' X2 ho hs
            simp only [List.cons_append, List.nil_append] at ho
            refine ⟨⟨ho.right, hT.2.trans hs⟩, ho, ?_⟩
            intro i his hv
            match i, his, hv with
            | 0, _, hv => exact hv
            | 1, _, hv => exact hv
            | 2, _, hv => exact hv
            | 3, _, hv => exact hv
            | 4, _, hv => exact hv
            | 5, _, _ => exact trivial
            | 6, h, _ => exact absurd rfl h
            | 7, _, hv => exact hv
            | 8, _, hv => exact hv
            | 9, _, hv => exact hv
            | 10, _, hv => exact hv
            | 11, _, hv => exact hv
            | 12, _, hv => exact hv
            | 13, _, hv => exact hv
            | 14, _, hv => exact hv
            | 15, _, hv => exact hv
            | 16, _, hv => exact hv
            | 17, _, hv => exact hv
            | 18, _, hv => exact hv
            | 19, _, hv => exact hv
            | 20, _, hv => exact hv
            | 21, _, hv => exact hv.elim
            | 22, _, hv => exact hv
            | n + 23, _, _ => exact trivial
          case todo =>
            refine ⟨?_, ?_, ?_, ?_, ?_, ?_, ?_, ?_, ?_, ?_, ?_, ?_, ?_, ?_, ?_, ?_, ?_, ?_, ?_, ?_, ?_, ?_, ?_, trivial⟩
            · intro _ ph h1 h2
              obtain rfl : ph = false := h2 (by kernel_rfl)
              intro ev X hT hb hk hf
              have e0 : ev (.tmp 4) = .slice oa2 2 oc2 := hk.1
              exact OpOk.move rfl e0 ⟨rfl, Stay.refl _⟩
            · intro _ ph h1 h2
              cases ph
              all_goals
                intro ev X hT hb hk hf
                have e0 : ev (.tmp 1) = .pointer (some ⟨w.heap.size, 0, Option.none⟩) := hk.1
                exact OpOk.run (v := .pointer (some ⟨w.heap.size, 2, Option.none⟩)) (W' := X) (by simp [execOp, e0, hb.1, go_sem]) ⟨rfl, Stay.refl _⟩
            · intro _ ph h1 h2
              cases ph
              all_goals
                intro ev X hT hb hk hf
                have e0 : ev (.tmp 80) = .pointer (some ⟨w.heap.size, 2, Option.none⟩) := hf.1
                have cW := EIv.cell hT 2 rfl
                exact OpOk.run (v := u32v sz) (W' := X) (by simp [execOp, e0, cW, go_sem]) ⟨rfl, Stay.refl _⟩
            · intro _ ph h1 h2
              cases ph
              all_goals
                intro ev X hT hb hk hf
                have e0 : ev (.tmp 81) = u32v sz := hf.1
                exact OpOk.run (v := .int .u32 ((sz : Int) / 256)) (W' := X) (by simp [execOp, e0, hb.1, go_sem]) ⟨rfl, Stay.refl _⟩
            · intro _ ph h1 h2
              cases ph
              all_goals
                intro ev X hT hb hk hf
                have e0 : ev (.tmp 82) = .int .u32 ((sz : Int) / 256) := hf.1
                exact OpOk.run (v := .int .u8 ((sz : Int) / 256 % 256)) (W' := X) (by simp [execOp, e0, hb.1, go_sem, IntKind.wrap_u8]) ⟨rfl, Stay.refl _⟩
            · intro _ ph h1 h2
              obtain rfl : ph = false := h2 (by kernel_rfl)
              intro ev X hT hb hk hf
              have e0 : ev (.tmp 83) = .int .u8 ((sz : Int) / 256 % 256) := hf.1
              exact OpOk.run (v := .slice (some ⟨X.heap.size, 0, Option.none⟩) 1 1) (W' := X.alloc (.cells #[.int .u8 ((sz : Int) / 256 % 256)] 5)) (by simp [execOp, e0, go_sem]) ⟨isb1 _ _ _ (b4v1 _) _, (Below.refl _ _).alloc (Nat.le_refl _) _⟩
            · exact fun h => absurd rfl h
            · intro _ ph h1 h2
              cases ph
              all_goals
                intro ev X hT hb hk hf
                have e0 : ev (.tmp 1) = .pointer (some ⟨w.heap.size, 0, Option.none⟩) := hk.1
                exact OpOk.run (v := .pointer (some ⟨w.heap.size, 1, Option.none⟩)) (W' := X) (by simp [execOp, e0, hb.1, go_sem]) ⟨rfl, Stay.refl _⟩
            · intro _ ph h1 h2
              cases ph
              all_goals
                intro ev X hT hb hk hf
                have e0 : ev (.tmp 86) = .pointer (some ⟨w.heap.size, 1, Option.none⟩) := hf.1
                have cW := EIv.cell hT 1 rfl
                exact OpOk.run (v := vb ty) (W' := X) (by simp [execOp, e0, cW, go_sem]) ⟨rfl, Stay.refl _⟩
            · intro _ ph h1 h2
              cases ph
              all_goals
                intro ev X hT hb hk hf
                have e0 : ev (.tmp 87) = vb ty := hf.1
                exact OpOk.run (v := .bool true) (W' := X) (by simp [execOp, e0, hb.1, T0, go_sem]) ⟨rfl, Stay.refl _⟩
            · intro _ ph h1 h2
              obtain rfl : ph = true := h1 (by kernel_rfl)
              intro ev X hT hb hk hf
              have e0 : ev (.tmp 88) = .bool true := hf.1
              exact OpOk.move rfl e0 ⟨rfl, Stay.refl _⟩
            · intro _ ph h1 h2
              cases ph
              all_goals
                intro ev X hT hb hk hf
                refine ⟨true, hf.1, fun _ => ?_, fun h => (h rfl).elim⟩
                have e0 : ev (.tmp 1) = .pointer (some ⟨w.heap.size, 0, Option.none⟩) := hk.1
                exact OpOk.run (v := .pointer (some ⟨w.heap.size, 2, Option.none⟩)) (W' := X) (by simp [execOp, e0, hb.1, go_sem]) ⟨rfl, Stay.refl _⟩
            · intro _ ph h1 h2
              cases ph
              all_goals
                intro ev X hT hb hk hf
                refine ⟨true, hf.2.1, fun _ => ?_, fun h => (h rfl).elim⟩
                have e0 : ev (.tmp 90) = .pointer (some ⟨w.heap.size, 2, Option.none⟩) := hf.1
                have cW := EIv.cell hT 2 rfl
                exact OpOk.run (v := u32v sz) (W' := X) (by simp [execOp, e0, cW, go_sem]) ⟨rfl, Stay.refl _⟩
            · intro _ ph h1 h2
              cases ph
              all_goals
                intro ev X hT hb hk hf
                refine ⟨true, hf.2.1, fun _ => ?_, fun h => (h rfl).elim⟩
                have e0 : ev (.tmp 91) = u32v sz := hf.1
                exact OpOk.run (v := .bool true) (W' := X) (by simp [execOp, e0, hb.1, L0, go_sem]) ⟨rfl, Stay.refl _⟩
            · intro _ ph h1 h2
              cases ph
              all_goals
                intro ev X hT hb hk hf
                have e0 : ev (.tmp 89) = .bool true := hf.1
                have e1 : ev (.tmp 92) = .bool true := hf.2.1
                exact OpOk.run (v := .bool true) (W' := X) (by simp [execOp, e0, e1, hb, hb.1, hb.2.1, hb.2.2, go_sem]) ⟨rfl, Stay.refl _⟩
            · intro _ ph h1 h2
              cases ph
              all_goals
                intro ev X hT hb hk hf
                have e0 : ev (.tmp 93) = .bool true := hf.1
                exact OpOk.move rfl e0 ⟨rfl, Stay.refl _⟩
            · intro _ ph h1 h2
              cases ph
              all_goals
                intro ev X hT hb hk hf
                refine ⟨true, hf.1, fun _ => ?_, fun h => (h rfl).elim⟩
                have e0 : ev (.tmp 1) = .pointer (some ⟨w.heap.size, 0, Option.none⟩) := hk.1
                exact OpOk.run (v := .pointer (some ⟨w.heap.size, 3, Option.none⟩)) (W' := X) (by simp [execOp, e0, hb.1, go_sem]) ⟨rfl, Stay.refl _⟩
            · intro _ ph h1 h2
              cases ph
              all_goals
                intro ev X hT hb hk hf
                refine ⟨true, hf.2.1, fun _ => ?_, fun h => (h rfl).elim⟩
                have e0 : ev (.tmp 95) = .pointer (some ⟨w.heap.size, 3, Option.none⟩) := hf.1
                have cW := EIv.cell hT 3 rfl
                exact OpOk.run (v := .slice da dl.length dc) (W' := X) (by simp [execOp, e0, cW, go_sem]) ⟨rfl, Stay.refl _⟩
            · intro _ ph h1 h2
              cases ph
              all_goals
                intro ev X hT hb hk hf
                refine ⟨true, hf.2.1, fun _ => ?_, fun h => (h rfl).elim⟩
                have e0 : ev (.tmp 96) = .slice da dl.length dc := hf.1
                exact OpOk.run (v := .int .i64 ((dl.length : Nat) : Int)) (W' := X) (by simp [execOp, e0, hb.1, go_sem]) ⟨rfl, Stay.refl _⟩
            · intro _ ph h1 h2
              cases ph
              all_goals
                intro ev X hT hb hk hf
                refine ⟨true, hf.2.1, fun _ => ?_, fun h => (h rfl).elim⟩
                have e0 : ev (.tmp 97) = .int .i64 ((dl.length : Nat) : Int) := hf.1
                exact OpOk.run (v := .bool true) (W' := X) (by simp [execOp, e0, hb.1, D0, go_sem]) ⟨rfl, Stay.refl _⟩
            · intro _ ph h1 h2
              cases ph
              all_goals
                intro ev X hT hb hk hf
                have e0 : ev (.tmp 94) = .bool true := hf.1
                have e1 : ev (.tmp 98) = .bool true := hf.2.1
                exact OpOk.run (v := .bool true) (W' := X) (by simp [execOp, e0, e1, hb, hb.1, hb.2.1, hb.2.2, go_sem]) ⟨rfl, Stay.refl _⟩
            · intro _ ph h1 h2
              obtain rfl : ph = true := h1 (by kernel_rfl)
              intro ev X hT hb hk hf
              have e0 := hf.1
              exact OpOk.assign rfl rfl ⟨e0, Stay.refl _⟩
            · intro _ ph h1 h2
              obtain rfl : ph = true := h1 (by kernel_rfl)
              intro ev X hT hb hk hf
              have e0 : ev (.tmp 99) = .bool true := hf.1
              exact OpOk.assign rfl e0 ⟨rfl, Stay.refl _⟩
          case rest =>
            intro X hT
            rintro _ rfl _ rfl _ rfl _ rfl _ rfl _ - _ - _ rfl _ rfl _ rfl _ rfl _ rfl _ rfl _ rfl _ rfl _ rfl _ rfl _ rfl _ rfl _ rfl _ rfl vo ho _ rfl
            obtain ⟨xa, xc, rfl, _, _, _, _⟩ := own_value ho
            have HO := hide ho
            have HST := hide hT
            clear ho hT
            go_wp2
            refine Rest.done ?_
            go_wp2_with fail
            go_ret2
            exact ⟨_, rfl, fun _ => by rw [EB.out]; exact own_bytes HO.out, all_below HST.out.1.right HST.out.2⟩
        · have hk2 : decide (ty = 0 ∧ sz < 65536 ∧ dl.length = 0) = false := decide_eq_false (fun h => pd h.2.2)
          rw [hk2]
          clear hk2
          have T0 : (((ty.toNat : Nat) : Int) == 0) = true := by rw [pt]; rfl
          have S0 : ((sz : Int) == 0) = false := by rw [beq_eq_false_iff_ne]; omega
          have L0 : decide ((sz : Int) < 65536) = true := by simp; omega
          have D0 : ((dl.length : Int) == 0) = false := by rw [beq_eq_false_iff_ne]; omega
          have DG : decide (0 < dl.length) = true := decide_eq_true (by omega)
          clear hEB
          clear pt
          clear ps
          clear plt
          clear pd
          go_enter Try.func23, Try.ntmps23
          go_wp2_with (first
            | (at_builtin; refine wpList_append_bytes (F := (EF w ⟨2, ty, sz, dl⟩ (.slice da dl.length dc))) rfl _ _ 23 rfl 5 hu infoR _ [2] [b4 sz 0] rfl (H1.out.alloc' _) _ rfl (isb1k _ _ (by simp) _ _ (by first | exact b4v0 _ | simp [vb, b4_toNat]) _) (by simp) ?_; intro v2 w2 ho hs; simp only [List.cons_append, List.nil_append] at ho; have H2 := hide ho; have HS2 := hide ((HS1.out.alloc _).trans hs); have r0 : _ = some (vb 2) := cell_of_row _ w.heap.size 0 _ _ _ (on_blk_mul ho.right); have r1 : _ = some (vb ty) := cell_of_row _ w.heap.size 1 _ _ _ (on_blk_mul ho.right); have r2 : _ = some (u32v sz) := cell_of_row _ w.heap.size 2 _ _ _ (on_blk_mul ho.right); have r3 : _ = some (Value.slice da dl.length dc) := cell_of_row _ w.heap.size 3 _ _ _ (on_blk_mul ho.right); obtain ⟨oa2, oc2, rfl, _, _, _, _⟩ := own_value ho; clear ho hs))
          refine wp_region_app 6 [isV (.slice oa2 2 oc2), isV (.pointer (some ⟨w.heap.size, 2, Option.none⟩)), isV (u32v sz), isV (.int .u32 ((sz : Int) / 256)), isV (.int .u8 ((sz : Int) / 256 % 256)), (fun v X => IsBytes X v [b4 sz 1]), (fun _ _ => True), isV (.pointer (some ⟨w.heap.size, 1, Option.none⟩)), isV (vb ty), isV (.bool true), isV (.bool true), isV (.pointer (some ⟨w.heap.size, 2, Option.none⟩)), isV (u32v sz), isV (.bool true), isV (.bool true), isV (.bool true), isV (.pointer (some ⟨w.heap.size, 3, Option.none⟩)), isV (.slice da dl.length dc), isV (.int .i64 ((dl.length : Nat) : Int)), isV (.bool false), isV (.bool false), (fun _ _ => False), isV (.bool false)]
            [isV (.slice oa2 2 oc2), isV (.pointer (some ⟨w.heap.size, 2, Option.none⟩)), isV (u32v sz), isV (.int .u32 ((sz : Int) / 256)), isV (.int .u8 ((sz : Int) / 256 % 256)), (fun _ _ => True), (fun v X => (ownR v [2, b4 sz 0, b4 sz 1] * (EF w ⟨2, ty, sz, dl⟩ (.slice da dl.length dc))).on X), isV (.pointer (some ⟨w.heap.size, 1, Option.none⟩)), isV (vb ty), isV (.bool true), isV (.bool true), isV (.pointer (some ⟨w.heap.size, 2, Option.none⟩)), isV (u32v sz), isV (.bool true), isV (.bool true), isV (.bool true), isV (.pointer (some ⟨w.heap.size, 3, Option.none⟩)), isV (.slice da dl.length dc), isV (.int .i64 ((dl.length : Nat) : Int)), isV (.bool false), isV (.bool false), (fun v X => (ownR v [2, b4 sz 0, b4 sz 1] * (EF w ⟨2, ty, sz, dl⟩ (.slice da dl.length dc))).on X), isV (.bool false)] _ rfl (by kernel_rfl) (by kernel_rfl) rfl (by decide) (EIv (ownR (.slice oa2 2 oc2) [2, b4 sz 0]) w ⟨2, ty, sz, dl⟩ (.slice da dl.length dc)) ⟨SP.on.drew H2.out, Str.drew HS2.out⟩ EIv.stay ?keep ?keep2 ?store ?todo ?rest
          case keep => exact ⟨Keep.isV _, Keep.isV _, Keep.isV _, Keep.isV _, Keep.isV _, fun _ _ _ h k => IsBytes.below h k, fun _ _ _ h _ => h, Keep.isV _, Keep.isV _, Keep.isV _, Keep.isV _, Keep.isV _, Keep.isV _, Keep.isV _, Keep.isV _, Keep.isV _, Keep.isV _, Keep.isV _, Keep.isV _, Keep.isV _, Keep.isV _, fun _ _ _ h _ => h, Keep.isV _, trivial⟩
          case keep2 => exact ⟨Keep.isV _, Keep.isV _, Keep.isV _, Keep.isV _, Keep.isV _, fun _ _ _ h _ => h, fun _ _ _ h k => SP.on.below h k, Keep.isV _, Keep.isV _, Keep.isV _, Keep.isV _, Keep.isV _, Keep.isV _, Keep.isV _, Keep.isV _, Keep.isV _, Keep.isV _, Keep.isV _, Keep.isV _, Keep.isV _, Keep.isV _, fun _ _ _ h k => SP.on.below h k, Keep.isV _, trivial⟩
          case store =>
            intro ev X hT hb hk hf
            have e0 : ev (.tmp 79) = .slice oa2 2 oc2 := hf.1
            have e1 : IsBytes X (ev (.tmp 84)) [b4 sz 1] := hf.2.1
            refine OpOk.append_bytes (F := (EF w ⟨2, ty, sz, dl⟩ (.slice da dl.length dc))) _ _ _ rfl 5 hu infoR _ [2, b4 sz 0] [b4 sz 1] e0 hT.1 e1 (by simp) ?_
            intro v' X2 ho hs
            simp only [List.cons_append, List.nil_append] at ho
            refine ⟨⟨ho.right, hT.2.trans hs⟩, ho, ?_⟩
            intro i his hv
            match i, his, hv with
            | 0, _, hv => exact hv
            | 1, _, hv => exact hv
            | 2, _, hv => exact hv
            | 3, _, hv => exact hv
            | 4, _, hv => exact hv
            | 5, _, _ => exact trivial
            | 6, h, _ => exact absurd rfl h
            | 7, _, hv => exact hv
            | 8, _, hv => exact hv
            | 9, _, hv => exact hv
            | 10, _, hv => exact hv
            | 11, _, hv => exact hv
            | 12, _, hv => exact hv
            | 13, _, hv => exact hv
            | 14, _, hv => exact hv
            | 15, _, hv => exact hv
            | 16, _, hv => exact hv
            | 17, _, hv => exact hv
            | 18, _, hv => exact hv
            | 19, _, hv => exact hv
            | 20, _, hv => exact hv
            | 21, _, hv => exact hv.elim
            | 22, _, hv => exact hv
            | n + 23, _, _ => exact trivial
          case todo =>
            refine ⟨?_, ?_, ?_, ?_, ?_, ?_, ?_, ?_, ?_, ?_, ?_, ?_, ?_, ?_, ?_, ?_, ?_, ?_, ?_, ?_, ?_, ?_, ?_, trivial⟩
            · intro _ ph h1 h2
              obtain rfl : ph = false := h2 (by kernel_rfl)
              intro ev X hT hb hk hf
              have e0 : ev (.tmp 4) = .slice oa2 2 oc2 := hk.1
              exact OpOk.move rfl e0 ⟨rfl, Stay.refl _⟩
            · intro _ ph h1 h2
              cases ph
              all_goals
                intro ev X hT hb hk hf
                have e0 : ev (.tmp 1) = .pointer (some ⟨w.heap.size, 0, Option.none⟩) := hk.1
                exact OpOk.run (v := .pointer (some ⟨w.heap.size, 2, Option.none⟩)) (W' := X) (by simp [execOp, e0, hb.1, go_sem]) ⟨rfl, Stay.refl _⟩
            · intro _ ph h1 h2
              cases ph
              all_goals
                intro ev X hT hb hk hf
                have e0 : ev (.tmp 80) = .pointer (some ⟨w.heap.size, 2, Option.none⟩) := hf.1
                have cW := EIv.cell hT 2 rfl
                exact OpOk.run (v := u32v sz) (W' := X) (by simp [execOp, e0, cW, go_sem]) ⟨rfl, Stay.refl _⟩
            · intro _ ph h1 h2
              cases ph
              all_goals
                intro ev X hT hb hk hf
                have e0 : ev (.tmp 81) = u32v sz := hf.1
                exact OpOk.run (v := .int .u32 ((sz : Int) / 256)) (W' := X) (by simp [execOp, e0, hb.1, go_sem]) ⟨rfl, Stay.refl _⟩
            · intro _ ph h1 h2
              cases ph
              all_goals
                intro ev X hT hb hk hf
                have e0 : ev (.tmp 82) = .int .u32 ((sz : Int) / 256) := hf.1
                exact OpOk.run (v := .int .u8 ((sz : Int) / 256 % 256)) (W' := X) (by simp [execOp, e0, hb.1, go_sem, IntKind.wrap_u8]) ⟨rfl, Stay.refl _⟩
            · intro _ ph h1 h2
              obtain rfl : ph = false := h2 (by kernel_rfl)
              intro ev X hT hb hk hf
              have e0 : ev (.tmp 83) = .int .u8 ((sz : Int) / 256 % 256) := hf.1
              exact OpOk.run (v := .slice (some ⟨X.heap.size, 0, Option.none⟩) 1 1) (W' := X.alloc (.cells #[.int .u8 ((sz : Int) / 256 % 256)] 5)) (by simp [execOp, e0, go_sem]) ⟨isb1 _ _ _ (b4v1 _) _, (Below.refl _ _).alloc (Nat.le_refl _) _⟩
            · exact fun h => absurd rfl h
            · intro _ ph h1 h2
              cases ph
              all_goals
                intro ev X hT hb hk hf
                have e0 : ev (.tmp 1) = .pointer (some ⟨w.heap.size, 0, Option.none⟩) := hk.1
                exact OpOk.run (v := .pointer (some ⟨w.heap.size, 1, Option.none⟩)) (W' := X) (by simp [execOp, e0, hb.1, go_sem]) ⟨rfl, Stay.refl _⟩
            · intro _ ph h1 h2
              cases ph
              all_goals
                intro ev X hT hb hk hf
                have e0 : ev (.tmp 86) = .pointer (some ⟨w.heap.size, 1, Option.none⟩) := hf.1
                have cW := EIv.cell hT 1 rfl
                exact OpOk.run (v := vb ty) (W' := X) (by simp [execOp, e0, cW, go_sem]) ⟨rfl, Stay.refl _⟩
            · intro _ ph h1 h2
              cases ph
              all_goals
                intro ev X hT hb hk hf
                have e0 : ev (.tmp 87) = vb ty := hf.1
                exact OpOk.run (v := .bool true) (W' := X) (by simp [execOp, e0, hb.1, T0, go_sem]) ⟨rfl, Stay.refl _⟩
            · intro _ ph h1 h2
              obtain rfl : ph = true := h1 (by kernel_rfl)
              intro ev X hT hb hk hf
              have e0 : ev (.tmp 88) = .bool true := hf.1
              exact OpOk.move rfl e0 ⟨rfl, Stay.refl _⟩
            · intro _ ph h1 h2
              cases ph
              all_goals
                intro ev X hT hb hk hf
                refine ⟨true, hf.1, fun _ => ?_, fun h => (h rfl).elim⟩
                have e0 : ev (.tmp 1) = .pointer (some ⟨w.heap.size, 0, Option.none⟩) := hk.1
                exact OpOk.run (v := .pointer (some ⟨w.heap.size, 2, Option.none⟩)) (W' := X) (by simp [execOp, e0, hb.1, go_sem]) ⟨rfl, Stay.refl _⟩
            · intro _ ph h1 h2
              cases ph
              all_goals
                intro ev X hT hb hk hf
                refine ⟨true, hf.2.1, fun _ => ?_, fun h => (h rfl).elim⟩
                have e0 : ev (.tmp 90) = .pointer (some ⟨w.heap.size, 2, Option.none⟩) := hf.1
                have cW := EIv.cell hT 2 rfl
                exact OpOk.run (v := u32v sz) (W' := X) (by simp [execOp, e0, cW, go_sem]) ⟨rfl, Stay.refl _⟩
            · intro _ ph h1 h2
              cases ph
              all_goals
                intro ev X hT hb hk hf
                refine ⟨true, hf.2.1, fun _ => ?_, fun h => (h rfl).elim⟩
                have e0 : ev (.tmp 91) = u32v sz := hf.1
                exact OpOk.run (v := .bool true) (W' := X) (by simp [execOp, e0, hb.1, L0, go_sem]) ⟨rfl, Stay.refl _⟩
            · intro _ ph h1 h2
              cases ph
              all_goals
                intro ev X hT hb hk hf
                have e0 : ev (.tmp 89) = .bool true := hf.1
                have e1 : ev (.tmp 92) = .bool true := hf.2.1
                exact OpOk.run (v := .bool true) (W' := X) (by simp [execOp, e0, e1, hb, hb.1, hb.2.1, hb.2.2, go_sem]) ⟨rfl, Stay.refl _⟩
            · intro _ ph h1 h2
              cases ph
              all_goals
                intro ev X hT hb hk hf
                have e0 : ev (.tmp 93) = .bool true := hf.1
                exact OpOk.move rfl e0 ⟨rfl, Stay.refl _⟩
            · intro _ ph h1 h2
              cases ph
              all_goals
                intro ev X hT hb hk hf
                refine ⟨true, hf.1, fun _ => ?_, fun h => (h rfl).elim⟩
                have e0 : ev (.tmp 1) = .pointer (some ⟨w.heap.size, 0, Option.none⟩) := hk.1
                exact OpOk.run (v := .pointer (some ⟨w.heap.size, 3, Option.none⟩)) (W' := X) (by simp [execOp, e0, hb.1, go_sem]) ⟨rfl, Stay.refl _⟩
            · intro _ ph h1 h2
              cases ph
              all_goals
                intro ev X hT hb hk hf
                refine ⟨true, hf.2.1, fun _ => ?_, fun h => (h rfl).elim⟩
                have e0 : ev (.tmp 95) = .pointer (some ⟨w.heap.size, 3, Option.none⟩) := hf.1
                have cW := EIv.cell hT 3 rfl
                exact OpOk.run (v := .slice da dl.length dc) (W' := X) (by simp [execOp, e0, cW, go_sem]) ⟨rfl, Stay.refl _⟩
            · intro _ ph h1 h2
              cases ph
              all_goals
                intro ev X hT hb hk hf
                refine ⟨true, hf.2.1, fun _ => ?_, fun h => (h rfl).elim⟩
                have e0 : ev (.tmp 96) = .slice da dl.length dc := hf.1
                exact OpOk.run (v := .int .i64 ((dl.length : Nat) : Int)) (W' := X) (by simp [execOp, e0, hb.1, go_sem]) ⟨rfl, Stay.refl _⟩
            · intro _ ph h1 h2
              cases ph
              all_goals
                intro ev X hT hb hk hf
                refine ⟨true, hf.2.1, fun _ => ?_, fun h => (h rfl).elim⟩
                have e0 : ev (.tmp 97) = .int .i64 ((dl.length : Nat) : Int) := hf.1
                exact OpOk.run (v := .bool false) (W' := X) (by simp [execOp, e0, hb.1, D0, go_sem]) ⟨rfl, Stay.refl _⟩
            · intro _ ph h1 h2
              cases ph
              all_goals
                intro ev X hT hb hk hf
                have e0 : ev (.tmp 94) = .bool true := hf.1
                have e1 : ev (.tmp 98) = .bool false := hf.2.1
                exact OpOk.run (v := .bool false) (W' := X) (by simp [execOp, e0, e1, hb, hb.1, hb.2.1, hb.2.2, go_sem]) ⟨rfl, Stay.refl _⟩
            · intro _ ph h1 h2
              obtain rfl : ph = true := h1 (by kernel_rfl)
              intro ev X hT hb hk hf
              have e0 := hf.1
              exact OpOk.assign rfl rfl ⟨e0, Stay.refl _⟩
            · intro _ ph h1 h2
              obtain rfl : ph = true := h1 (by kernel_rfl)
              intro ev X hT hb hk hf
              have e0 : ev (.tmp 99) = .bool false := hf.1
              exact OpOk.assign rfl e0 ⟨rfl, Stay.refl _⟩
          case rest =>
            intro X hT
            rintro _ rfl _ rfl _ rfl _ rfl _ rfl _ - _ - _ rfl _ rfl _ rfl _ rfl _ rfl _ rfl _ rfl _ rfl _ rfl _ rfl _ rfl _ rfl _ rfl _ rfl vo ho _ rfl
            obtain ⟨xa, xc, rfl, _, _, _, _⟩ := own_value ho
            have HO := hide ho
            have HST := hide hT
            clear ho hT
            go_wp2
            refine Rest.done ?_
            go_wp2_with fail
            go_ret2
            exact ⟨_, rfl, (fun h => by cases h), all_below HST.out.1.right HST.out.2⟩
      · have hk2 : decide (ty = 0 ∧ sz < 65536 ∧ dl.length = 0) = false := decide_eq_false (fun h => plt h.2.1)
        rw [hk2]
        clear hk2
        have T0 : (((ty.toNat : Nat) : Int) == 0) = true := by rw [pt]; rfl
        have S0 : ((sz : Int) == 0) = false := by rw [beq_eq_false_iff_ne]; omega
        have L0 : decide ((sz : Int) < 65536) = false := by simp; omega
        clear hEB
        clear pt
        clear ps
        clear plt
        go_enter Try.func23, Try.ntmps23
        go_wp2_with (first
          | (at_builtin; refine wpList_append_bytes (F := (EF w ⟨2, ty, sz, dl⟩ (.slice da dl.length dc))) rfl _ _ 23 rfl 5 hu infoR _ [2] [b4 sz 0] rfl (H1.out.alloc' _) _ rfl (isb1k _ _ (by simp) _ _ (by first | exact b4v0 _ | simp [vb, b4_toNat]) _) (by simp) ?_; intro v2 w2 ho hs; simp only [List.cons_append, List.nil_append] at ho; have H2 := hide ho; have HS2 := hide ((HS1.out.alloc _).trans hs); have r0 : _ = some (vb 2) := cell_of_row _ w.heap.size 0 _ _ _ (on_blk_mul ho.right); have r1 : _ = some (vb ty) := cell_of_row _ w.heap.size 1 _ _ _ (on_blk_mul ho.right); have r2 : _ = some (u32v sz) := cell_of_row _ w.heap.size 2 _ _ _ (on_blk_mul ho.right); have r3 : _ = some (Value.slice da dl.length dc) := cell_of_row _ w.heap.size 3 _ _ _ (on_blk_mul ho.right); obtain ⟨oa2, oc2, rfl, _, _, _, _⟩ := own_value ho; clear ho hs))
        refine wp_region_app 6 [isV (.slice oa2 2 oc2), isV (.pointer (some ⟨w.heap.size, 2, Option.none⟩)), isV (u32v sz), isV (.int .u32 ((sz : Int) / 256)), isV (.int .u8 ((sz : Int) / 256 % 256)), (fun v X => IsBytes X v [b4 sz 1]), (fun _ _ => True), isV (.pointer (some ⟨w.heap.size, 1, Option.none⟩)), isV (vb ty), isV (.bool true), isV (.bool true), isV (.pointer (some ⟨w.heap.size, 2, Option.none⟩)), isV (u32v sz), isV (.bool false), isV (.bool false), isV (.bool false), isV (undef), isV (undef), isV (undef), isV (undef), isV (.bool false), (fun _ _ => False), isV (.bool false)]
          [isV (.slice oa2 2 oc2), isV (.pointer (some ⟨w.heap.size, 2, Option.none⟩)), isV (u32v sz), isV (.int .u32 ((sz : Int) / 256)), isV (.int .u8 ((sz : Int) / 256 % 256)), (fun _ _ => True), (fun v X => (ownR v [2, b4 sz 0, b4 sz 1] * (EF w ⟨2, ty, sz, dl⟩ (.slice da dl.length dc))).on X), isV (.pointer (some ⟨w.heap.size, 1, Option.none⟩)), isV (vb ty), isV (.bool true), isV (.bool true), isV (.pointer (some ⟨w.heap.size, 2, Option.none⟩)), isV (u32v sz), isV (.bool false), isV (.bool false), isV (.bool false), isV (undef), isV (undef), isV (undef), isV (undef), isV (.bool false), (fun v X => (ownR v [2, b4 sz 0, b4 sz 1] * (EF w ⟨2, ty, sz, dl⟩ (.slice da dl.length dc))).on X), isV (.bool false)] _ rfl (by kernel_rfl) (by kernel_rfl) rfl (by decide) (EIv (ownR (.slice oa2 2 oc2) [2, b4 sz 0]) w ⟨2, ty, sz, dl⟩ (.slice da dl.length dc)) ⟨SP.on.drew H2.out, Str.drew HS2.out⟩ EIv.stay ?keep ?keep2 ?store ?todo ?rest
        case keep => exact ⟨Keep.isV _, Keep.isV _, Keep.isV _, Keep.isV _, Keep.isV _, fun _ _ _ h k => IsBytes.below h k, fun _ _ _ h _ => h, Keep.isV _, Keep.isV _, Keep.isV _, Keep.isV _, Keep.isV _, Keep.isV _, Keep.isV _, Keep.isV _, Keep.isV _, Keep.isV _, Keep.isV _, Keep.isV _, Keep.isV _, Keep.isV _, fun _ _ _ h _ => h, Keep.isV _, trivial⟩
        case keep2 => exact ⟨Keep.isV _, Keep.isV _, Keep.isV _, Keep.isV _, Keep.isV _, fun _ _ _ h _ => h, fun _ _ _ h k => SP.on.below h k, Keep.isV _, Keep.isV _, Keep.isV _, Keep.isV _, Keep.isV _, Keep.isV _, Keep.isV _, Keep.isV _, Keep.isV _, Keep.isV _, Keep.isV _, Keep.isV _, Keep.isV _, Keep.isV _, fun _ _ _ h k => SP.on.below h k, Keep.isV _, trivial⟩
        case store =>
          intro ev X hT hb hk hf
          have e0 : ev (.tmp 79) = .slice oa2 2 oc2 := hf.1
          have e1 : IsBytes X (ev (.tmp 84)) [b4 sz 1] := hf.2.1
          refine OpOk.append_bytes (F := (EF w ⟨2, ty, sz, dl⟩ (.slice da dl.length dc))) _ _ _ rfl 5 hu infoR _ [2, b4 sz 0] [b4 sz 1] e0 hT.1 e1 (by simp) ?_
          intro v' X2 ho hs
          simp only [List.cons_append, List.nil_append] at ho
          refine ⟨⟨ho.right, hT.2.trans hs⟩, ho, ?_⟩
          intro i his hv
          match i, his, hv with
          | 0, _, hv => exact hv
          | 1, _, hv => exact hv
          | 2, _, hv => exact hv
          | 3, _, hv => exact hv
          | 4, _, hv => exact hv
          | 5, _, _ => exact trivial
          | 6, h, _ => exact absurd rfl h
          | 7, _, hv => exact hv
          | 8, _, hv => exact hv
          | 9, _, hv => exact hv
          | 10, _, hv => exact hv
          | 11, _, hv => exact hv
          | 12, _, hv => exact hv
          | 13, _, hv => exact hv
          | 14, _, hv => exact hv
          | 15, _, hv => exact hv
          | 16, _, hv => exact hv
          | 17, _, hv => exact hv
          | 18, _, hv => exact hv
          | 19, _, hv => exact hv
          | 20, _, hv => exact hv
          | 21, _, hv => exact hv.elim
          | 22, _, hv => exact hv
          | n + 23, _, _ => exact trivial
        case todo =>
          refine ⟨?_, ?_, ?_, ?_, ?_, ?_, ?_, ?_, ?_, ?_, ?_, ?_, ?_, ?_, ?_, ?_, ?_, ?_, ?_, ?_, ?_, ?_, ?_, trivial⟩
          · intro _ ph h1 h2
            obtain rfl : ph = false := h2 (by kernel_rfl)
            intro ev X hT hb hk hf
            have e0 : ev (.tmp 4) = .slice oa2 2 oc2 := hk.1
            exact OpOk.move rfl e0 ⟨rfl, Stay.refl _⟩
          · intro _ ph h1 h2
            cases ph
            all_goals
              intro ev X hT hb hk hf
              have e0 : ev (.tmp 1) = .pointer (some ⟨w.heap.size, 0, Option.none⟩) := hk.1
              exact OpOk.run (v := .pointer (some ⟨w.heap.size, 2, Option.none⟩)) (W' := X) (by simp [execOp, e0, hb.1, go_sem]) ⟨rfl, Stay.refl _⟩
          · intro _ ph h1 h2
            cases ph
            all_goals
              intro ev X hT hb hk hf
              have e0 : ev (.tmp 80) = .pointer (some ⟨w.heap.size, 2, Option.none⟩) := hf.1
              have cW := EIv.cell hT 2 rfl
              exact OpOk.run (v := u32v sz) (W' := X) (by simp [execOp, e0, cW, go_sem]) ⟨rfl, Stay.refl _⟩
          · intro _ ph h1 h2
            cases ph
            all_goals
              intro ev X hT hb hk hf
              have e0 : ev (.tmp 81) = u32v sz := hf.1
              exact OpOk.run (v := .int .u32 ((sz : Int) / 256)) (W' := X) (by simp [execOp, e0, hb.1, go_sem]) ⟨rfl, Stay.refl _⟩
          · intro _ ph h1 h2
            cases ph
            all_goals
              intro ev X hT hb hk hf
              have e0 : ev (.tmp 82) = .int .u32 ((sz : Int) / 256) := hf.1
              exact OpOk.run (v := .int .u8 ((sz : Int) / 256 % 256)) (W' := X) (by simp [execOp, e0, hb.1, go_sem, IntKind.wrap_u8]) ⟨rfl, Stay.refl _⟩
          · intro _ ph h1 h2
            obtain rfl : ph = false := h2 (by kernel_rfl)
            intro ev X hT hb hk hf
            have e0 : ev (.tmp 83) = .int .u8 ((sz : Int) / 256 % 256) := hf.1
            exact OpOk.run (v := .slice (some ⟨X.heap.size, 0, Option.none⟩) 1 1) (W' := X.alloc (.cells #[.int .u8 ((sz : Int) / 256 % 256)] 5)) (by simp [execOp, e0, go_sem]) ⟨isb1 _ _ _ (b4v1 _) _, (Below.refl _ _).alloc (Nat.le_refl _) _⟩
          · exact fun h => absurd rfl h
          · intro _ ph h1 h2
            cases ph
            all_goals
              intro ev X hT hb hk hf
              have e0 : ev (.tmp 1) = .pointer (some ⟨w.heap.size, 0, Option.none⟩) := hk.1
              exact OpOk.run (v := .pointer (some ⟨w.heap.size, 1, Option.none⟩)) (W' := X) (by simp [execOp, e0, hb.1, go_sem]) ⟨rfl, Stay.refl _⟩
          · intro _ ph h1 h2
            cases ph
            all_goals
              intro ev X hT hb hk hf
              have e0 : ev (.tmp 86) = .pointer (some ⟨w.heap.size, 1, Option.none⟩) := hf.1
              have cW := EIv.cell hT 1 rfl
              exact OpOk.run (v := vb ty) (W' := X) (by simp [execOp, e0, cW, go_sem]) ⟨rfl, Stay.refl _⟩
          · intro _ ph h1 h2
            cases ph
            all_goals
              intro ev X hT hb hk hf
              have e0 : ev (.tmp 87) = vb ty := hf.1
              exact OpOk.run (v := .bool true) (W' := X) (by simp [execOp, e0, hb.1, T0, go_sem]) ⟨rfl, Stay.refl _⟩
          · intro _ ph h1 h2
            obtain rfl : ph = true := h1 (by kernel_rfl)
            intro ev X hT hb hk hf
            have e0 : ev (.tmp 88) = .bool true := hf.1
            exact OpOk.move rfl e0 ⟨rfl, Stay.refl _⟩
          · intro _ ph h1 h2
            cases ph
            all_goals
              intro ev X hT hb hk hf
              refine ⟨true, hf.1, fun _ => ?_, fun h => (h rfl).elim⟩
              have e0 : ev (.tmp 1) = .pointer (some ⟨w.heap.size, 0, Option.none⟩) := hk.1
              exact OpOk.run (v := .pointer (some ⟨w.heap.size, 2, Option.none⟩)) (W' := X) (by simp [execOp, e0, hb.1, go_sem]) ⟨rfl, Stay.refl _⟩
          · intro _ ph h1 h2
            cases ph
            all_goals
              intro ev X hT hb hk hf
              refine ⟨true, hf.2.1, fun _ => ?_, fun h => (h rfl).elim⟩
              have e0 : ev (.tmp 90) = .pointer (some ⟨w.heap.size, 2, Option.none⟩) := hf.1
              have cW := EIv.cell hT 2 rfl
              exact OpOk.run (v := u32v sz) (W' := X) (by simp [execOp, e0, cW, go_sem]) ⟨rfl, Stay.refl _⟩
          · intro _ ph h1 h2
            cases ph
            all_goals
              intro ev X hT hb hk hf
              refine ⟨true, hf.2.1, fun _ => ?_, fun h => (h rfl).elim⟩
              have e0 : ev (.tmp 91) = u32v sz := hf.1
              exact OpOk.run (v := .bool false) (W' := X) (by simp [execOp, e0, hb.1, L0, go_sem]) ⟨rfl, Stay.refl _⟩
          · intro _ ph h1 h2
            cases ph
            all_goals
              intro ev X hT hb hk hf
              have e0 : ev (.tmp 89) = .bool true := hf.1
              have e1 : ev (.tmp 92) = .bool false := hf.2.1
              exact OpOk.run (v := .bool false) (W' := X) (by simp [execOp, e0, e1, hb, hb.1, hb.2.1, hb.2.2, go_sem]) ⟨rfl, Stay.refl _⟩
          · intro _ ph h1 h2
            cases ph
            all_goals
              intro ev X hT hb hk hf
              have e0 : ev (.tmp 93) = .bool false := hf.1
              exact OpOk.move rfl e0 ⟨rfl, Stay.refl _⟩
          · intro _ ph h1 h2
            cases ph
            all_goals
              intro ev X hT hb hk hf
              exact ⟨false, hf.1, fun h => (nomatch h), fun _ => rfl⟩
          · intro _ ph h1 h2
            cases ph
            all_goals
              intro ev X hT hb hk hf
              exact ⟨false, hf.2.1, fun h => (nomatch h), fun _ => rfl⟩
          · intro _ ph h1 h2
            cases ph
            all_goals
              intro ev X hT hb hk hf
              exact ⟨false, hf.2.1, fun h => (nomatch h), fun _ => rfl⟩
          · intro _ ph h1 h2
            cases ph
            all_goals
              intro ev X hT hb hk hf
              exact ⟨false, hf.2.1, fun h => (nomatch h), fun _ => rfl⟩
          · intro _ ph h1 h2
            cases ph
            all_goals
              intro ev X hT hb hk hf
              have e0 : ev (.tmp 94) = .bool false := hf.1
              have e1 : ev (.tmp 98) = undef := hf.2.1
              exact OpOk.run (v := .bool false) (W' := X) (by simp [execOp, e0, e1, hb, hb.1, hb.2.1, hb.2.2, go_sem]) ⟨rfl, Stay.refl _⟩
          · intro _ ph h1 h2
            obtain rfl : ph = true := h1 (by kernel_rfl)
            intro ev X hT hb hk hf
            have e0 := hf.1
            exact OpOk.assign rfl rfl ⟨e0, Stay.refl _⟩
          · intro _ ph h1 h2
            obtain rfl : ph = true := h1 (by kernel_rfl)
            intro ev X hT hb hk hf
            have e0 : ev (.tmp 99) = .bool false := hf.1
            exact OpOk.assign rfl e0 ⟨rfl, Stay.refl _⟩
        case rest =>
          intro X hT
          rintro _ rfl _ rfl _ rfl _ rfl _ rfl _ - _ - _ rfl _ rfl _ rfl _ rfl _ rfl _ rfl _ rfl _ rfl _ rfl _ rfl _ rfl _ rfl _ rfl _ rfl vo ho _ rfl
          obtain ⟨xa, xc, rfl, _, _, _, _⟩ := own_value ho
          have HO := hide ho
          have HST := hide hT
          clear ho hT
          go_wp2
          refine Rest.done ?_
          go_wp2_with fail
          go_ret2
          exact ⟨_, rfl, (fun h => by cases h), all_below HST.out.1.right HST.out.2⟩
  · have hk2 : decide (ty = 0 ∧ sz < 65536 ∧ dl.length = 0) = false := decide_eq_false (fun h => pt h.1)
    rw [hk2]
    clear hk2
    have T0 : (((ty.toNat : Nat) : Int) == 0) = false := by rw [beq_eq_false_iff_ne]; intro e; exact pt (UInt8.toNat_inj.1 (by simpa using e))
    clear hEB
    clear pt
    go_enter Try.func23, Try.ntmps23
    go_wp2_with (first
      | (at_builtin; refine wpList_append_bytes (F := (EF w ⟨2, ty, sz, dl⟩ (.slice da dl.length dc))) rfl _ _ 23 rfl 5 hu infoR _ [2] [b4 sz 0] rfl (H1.out.alloc' _) _ rfl (isb1k _ _ (by simp) _ _ (by first | exact b4v0 _ | simp [vb, b4_toNat]) _) (by simp) ?_; intro v2 w2 ho hs; simp only [List.cons_append, List.nil_append] at ho; have H2 := hide ho; have HS2 := hide ((HS1.out.alloc _).trans hs); have r0 : _ = some (vb 2) := cell_of_row _ w.heap.size 0 _ _ _ (on_blk_mul ho.right); have r1 : _ = some (vb ty) := cell_of_row _ w.heap.size 1 _ _ _ (on_blk_mul ho.right); have r2 : _ = some (u32v sz) := cell_of_row _ w.heap.size 2 _ _ _ (on_blk_mul ho.right); have r3 : _ = some (Value.slice da dl.length dc) := cell_of_row _ w.heap.size 3 _ _ _ (on_blk_mul ho.right); obtain ⟨oa2, oc2, rfl, _, _, _, _⟩ := own_value ho; clear ho hs))
    refine wp_region_app 6 [isV (.slice oa2 2 oc2), isV (.pointer (some ⟨w.heap.size, 2, Option.none⟩)), isV (u32v sz), isV (.int .u32 ((sz : Int) / 256)), isV (.int .u8 ((sz : Int) / 256 % 256)), (fun v X => IsBytes X v [b4 sz 1]), (fun _ _ => True), isV (.pointer (some ⟨w.heap.size, 1, Option.none⟩)), isV (vb ty), isV (.bool false), isV (.bool false), isV (undef), isV (undef), isV (undef), isV (.bool false), isV (.bool false), isV (undef), isV (undef), isV (undef), isV (undef), isV (.bool false), (fun _ _ => False), isV (.bool false)]
      [isV (.slice oa2 2 oc2), isV (.pointer (some ⟨w.heap.size, 2, Option.none⟩)), isV (u32v sz), isV (.int .u32 ((sz : Int) / 256)), isV (.int .u8 ((sz : Int) / 256 % 256)), (fun _ _ => True), (fun v X => (ownR v [2, b4 sz 0, b4 sz 1] * (EF w ⟨2, ty, sz, dl⟩ (.slice da dl.length dc))).on X), isV (.pointer (some ⟨w.heap.size, 1, Option.none⟩)), isV (vb ty), isV (.bool false), isV (.bool false), isV (undef), isV (undef), isV (undef), isV (.bool false), isV (.bool false), isV (undef), isV (undef), isV (undef), isV (undef), isV (.bool false), (fun v X => (ownR v [2, b4 sz 0, b4 sz 1] * (EF w ⟨2, ty, sz, dl⟩ (.slice da dl.length dc))).on X), isV (.bool false)] _ rfl (by kernel_rfl) (by kernel_rfl) rfl (by decide) (EIv (ownR (.slice oa2 2 oc2) [2, b4 sz 0]) w ⟨2, ty, sz, dl⟩ (.slice da dl.length dc)) ⟨SP.on.drew H2.out, Str.drew HS2.out⟩ EIv.stay ?keep ?keep2 ?store ?todo ?rest
    case keep => exact ⟨Keep.isV _, Keep.isV _, Keep.isV _, Keep.isV _, Keep.isV _, fun _ _ _ h k => IsBytes.below h k, fun _ _ _ h _ => h, Keep.isV _, Keep.isV _, Keep.isV _, Keep.isV _, Keep.isV _, Keep.isV _, Keep.isV _, Keep.isV _, Keep.isV _, Keep.isV _, Keep.isV _, Keep.isV _, Keep.isV _, Keep.isV _, fun _ _ _ h _ => h, Keep.isV _, trivial⟩
    case keep2 => exact ⟨Keep.isV _, Keep.isV _, Keep.isV _, Keep.isV _, Keep.isV _, fun _ _ _ h _ => h, fun _ _ _ h k => SP.on.below h k, Keep.isV _, Keep.isV _, Keep.isV _, Keep.isV _, Keep.isV _, Keep.isV _, Keep.isV _, Keep.isV _, Keep.isV _, Keep.isV _, Keep.isV _, Keep.isV _, Keep.isV _, Keep.isV _, fun _ _ _ h k => SP.on.below h k, Keep.isV _, trivial⟩
    case store =>
      intro ev X hT hb hk hf
      have e0 : ev (.tmp 79) = .slice oa2 2 oc2 := hf.1
      have e1 : IsBytes X (ev (.tmp 84)) [b4 sz 1] := hf.2.1
      refine OpOk.append_bytes (F := (EF w ⟨2, ty, sz, dl⟩ (.slice da dl.length dc))) _ _ _ rfl 5 hu infoR _ [2, b4 sz 0] [b4 sz 1] e0 hT.1 e1 (by simp) ?_
      intro v' X2 ho hs
      simp only [List.cons_append, List.nil_append] at ho
      refine ⟨⟨ho.right, hT.2.trans hs⟩, ho, ?_⟩
      intro i his hv
      match i, his, hv with
      | 0, _, hv => exact hv
      | 1, _, hv => exact hv
      | 2, _, hv => exact hv
      | 3, _, hv => exact hv
      | 4, _, hv => exact hv
      | 5, _, _ => exact trivial
      | 6, h, _ => exact absurd rfl h
      | 7, _, hv => exact hv
      | 8, _, hv => exact hv
      | 9, _, hv => exact hv
      | 10, _, hv => exact hv
      | 11, _, hv => exact hv
      | 12, _, hv => exact hv
      | 13, _, hv => exact hv
      | 14, _, hv => exact hv
      | 15, _, hv => exact hv
      | 16, _, hv => exact hv
      | 17, _, hv => exact hv
      | 18, _, hv => exact hv
      | 19, _, hv => exact hv
      | 20, _, hv => exact hv
      | 21, _, hv => exact hv.elim
      | 22, _, hv => exact hv
      | n + 23, _, _ => exact trivial
    case todo =>
      refine ⟨?_, ?_, ?_, ?_, ?_, ?_, ?_, ?_, ?_, ?_, ?_, ?_, ?_, ?_, ?_, ?_, ?_, ?_, ?_, ?_, ?_, ?_, ?_, trivial⟩
      · intro _ ph h1 h2
        obtain rfl : ph = false := h2 (by kernel_rfl)
        intro ev X hT hb hk hf
        have e0 : ev (.tmp 4) = .slice oa2 2 oc2 := hk.1
        exact OpOk.move rfl e0 ⟨rfl, Stay.refl _⟩
      · intro _ ph h1 h2
        cases ph
        all_goals
          intro ev X hT hb hk hf
          have e0 : ev (.tmp 1) = .pointer (some ⟨w.heap.size, 0, Option.none⟩) := hk.1
          exact OpOk.run (v := .pointer (some ⟨w.heap.size, 2, Option.none⟩)) (W' := X) (by simp [execOp, e0, hb.1, go_sem]) ⟨rfl, Stay.refl _⟩
      · intro _ ph h1 h2
        cases ph
        all_goals
          intro ev X hT hb hk hf
          have e0 : ev (.tmp 80) = .pointer (some ⟨w.heap.size, 2, Option.none⟩) := hf.1
          have cW := EIv.cell hT 2 rfl
          exact OpOk.run (v := u32v sz) (W' := X) (by simp [execOp, e0, cW, go_sem]) ⟨rfl, Stay.refl _⟩
      · intro _ ph h1 h2
        cases ph
        all_goals
          intro ev X hT hb hk hf
          have e0 : ev (.tmp 81) = u32v sz := hf.1
          exact OpOk.run (v := .int .u32 ((sz : Int) / 256)) (W' := X) (by simp [execOp, e0, hb.1, go_sem]) ⟨rfl, Stay.refl _⟩
      · intro _ ph h1 h2
        cases ph
        all_goals
          intro ev X hT hb hk hf
          have e0 : ev (.tmp 82) = .int .u32 ((sz : Int) / 256) := hf.1
          exact OpOk.run (v := .int .u8 ((sz : Int) / 256 % 256)) (W' := X) (by simp [execOp, e0, hb.1, go_sem, IntKind.wrap_u8]) ⟨rfl, Stay.refl _⟩
      · intro _ ph h1 h2
        obtain rfl : ph = false := h2 (by kernel_rfl)
        intro ev X hT hb hk hf
        have e0 : ev (.tmp 83) = .int .u8 ((sz : Int) / 256 % 256) := hf.1
        exact OpOk.run (v := .slice (some ⟨X.heap.size, 0, Option.none⟩) 1 1) (W' := X.alloc (.cells #[.int .u8 ((sz : Int) / 256 % 256)] 5)) (by simp [execOp, e0, go_sem]) ⟨isb1 _ _ _ (b4v1 _) _, (Below.refl _ _).alloc (Nat.le_refl _) _⟩
      · exact fun h => absurd rfl h
      · intro _ ph h1 h2
        cases ph
        all_goals
          intro ev X hT hb hk hf
          have e0 : ev (.tmp 1) = .pointer (some ⟨w.heap.size, 0, Option.none⟩) := hk.1
          exact OpOk.run (v := .pointer (some ⟨w.heap.size, 1, Option.none⟩)) (W' := X) (by simp [execOp, e0, hb.1, go_sem]) ⟨rfl, Stay.refl _⟩
      · intro _ ph h1 h2
        cases ph
        all_goals
          intro ev X hT hb hk hf
          have e0 : ev (.tmp 86) = .pointer (some ⟨w.heap.size, 1, Option.none⟩) := hf.1
          have cW := EIv.cell hT 1 rfl
          exact OpOk.run (v := vb ty) (W' := X) (by simp [execOp, e0, cW, go_sem]) ⟨rfl, Stay.refl _⟩
      · intro _ ph h1 h2
        cases ph
        all_goals
          intro ev X hT hb hk hf
          have e0 : ev (.tmp 87) = vb ty := hf.1
          exact OpOk.run (v := .bool false) (W' := X) (by simp [execOp, e0, hb.1, T0, go_sem]) ⟨rfl, Stay.refl _⟩
      · intro _ ph h1 h2
        obtain rfl : ph = true := h1 (by kernel_rfl)
        intro ev X hT hb hk hf
        have e0 : ev (.tmp 88) = .bool false := hf.1
        exact OpOk.move rfl e0 ⟨rfl, Stay.refl _⟩
      · intro _ ph h1 h2
        cases ph
        all_goals
          intro ev X hT hb hk hf
          exact ⟨false, hf.1, fun h => (nomatch h), fun _ => rfl⟩
      · intro _ ph h1 h2
        cases ph
        all_goals
          intro ev X hT hb hk hf
          exact ⟨false, hf.2.1, fun h => (nomatch h), fun _ => rfl⟩
      · intro _ ph h1 h2
        cases ph
        all_goals
          intro ev X hT hb hk hf
          exact ⟨false, hf.2.1, fun h => (nomatch h), fun _ => rfl⟩
      · intro _ ph h1 h2
        cases ph
        all_goals
          intro ev X hT hb hk hf
          have e0 : ev (.tmp 89) = .bool false := hf.1
          have e1 : ev (.tmp 92) = undef := hf.2.1
          exact OpOk.run (v := .bool false) (W' := X) (by simp [execOp, e0, e1, hb, hb.1, hb.2.1, hb.2.2, go_sem]) ⟨rfl, Stay.refl _⟩
      · intro _ ph h1 h2
        cases ph
        all_goals
          intro ev X hT hb hk hf
          have e0 : ev (.tmp 93) = .bool false := hf.1
          exact OpOk.move rfl e0 ⟨rfl, Stay.refl _⟩
      · intro _ ph h1 h2
        cases ph
        all_goals
          intro ev X hT hb hk hf
          exact ⟨false, hf.1, fun h => (nomatch h), fun _ => rfl⟩
      · intro _ ph h1 h2
        cases ph
        all_goals
          intro ev X hT hb hk hf
          exact ⟨false, hf.2.1, fun h => (nomatch h), fun _ => rfl⟩
      · intro _ ph h1 h2
        cases ph
        all_goals
          intro ev X hT hb hk hf
          exact ⟨false, hf.2.1, fun h => (nomatch h), fun _ => rfl⟩
      · intro _ ph h1 h2
        cases ph
        all_goals
          intro ev X hT hb hk hf
          exact ⟨false, hf.2.1, fun h => (nomatch h), fun _ => rfl⟩
      · intro _ ph h1 h2
        cases ph
        all_goals
          intro ev X hT hb hk hf
          have e0 : ev (.tmp 94) = .bool false := hf.1
          have e1 : ev (.tmp 98) = undef := hf.2.1
          exact OpOk.run (v := .bool false) (W' := X) (by simp [execOp, e0, e1, hb, hb.1, hb.2.1, hb.2.2, go_sem]) ⟨rfl, Stay.refl _⟩
      · intro _ ph h1 h2
        obtain rfl : ph = true := h1 (by kernel_rfl)
        intro ev X hT hb hk hf
        have e0 := hf.1
        exact OpOk.assign rfl rfl ⟨e0, Stay.refl _⟩
      · intro _ ph h1 h2
        obtain rfl : ph = true := h1 (by kernel_rfl)
        intro ev X hT hb hk hf
        have e0 : ev (.tmp 99) = .bool false := hf.1
        exact OpOk.assign rfl e0 ⟨rfl, Stay.refl _⟩
    case rest =>
      intro X hT
      rintro _ rfl _ rfl _ rfl _ rfl _ rfl _ - _ - _ rfl _ rfl _ rfl _ rfl _ rfl _ rfl _ rfl _ rfl _ rfl _ rfl _ rfl _ rfl _ rfl _ rfl vo ho _ rfl
      obtain ⟨xa, xc, rfl, _, _, _, _⟩ := own_value ho
      have HO := hide ho
      have HST := hide hT
      clear ho hT
      go_wp2
      refine Rest.done ?_
      go_wp2_with fail
      go_ret2
      exact ⟨_, rfl, (fun h => by cases h), all_below HST.out.1.right HST.out.2⟩

set_option maxRecDepth 100000 in
set_option maxHeartbeats 16000000 in
theorem renc_6 (ty : UInt8) (sz : Nat) (dl : List UInt8) (dv : Value) (w : World) (hsz : sz < 4294967296) (h : IsBytes w dv dl) (hlen : dl.length ≤ 1000000) (hEB : dl.length = 0 → encBytes ⟨6, ty, sz, dl⟩ = [6, ty]) :
    Calls Try.prog 23 #[.agg (reqCells ⟨6, ty, sz, dl⟩ dv)] w (REncEnd (decide (sz = 0 ∧ dl.length = 0)) (encBytes ⟨6, ty, sz, dl⟩) w) := by
  have hu := Try.underlying23
  have Hd := hide h
  obtain ⟨da, dc, rfl, hdc, hdm, _, _⟩ := h
  unfold maxLen at hdm
  have hw0 := (on_all w).alloc (.cells (reqCells ⟨6, ty, sz, dl⟩ (.slice da dl.length dc)) 49)
  have hs0 := (Str.refl w).alloc (.cells (reqCells ⟨6, ty, sz, dl⟩ (.slice da dl.length dc)) 49)
  have hw1 := own_new 5 1 1 (vbs [6]) hw0 rfl (by decide)
  have hv1 : (vbs [6]).toArray = #[vb 6] := rfl
  rw [hv1] at hw1
  simp only [World.size_alloc] at hw1
  have hs1 := hs0.alloc (.cells #[vb 6] 5)
  have g0 := on_blk_mul hw0
  have g1 := on_blk_mul hw1.right
  have q0 : _ = some (vb 6) := cell_of_row _ w.heap.size 0 _ _ _ g0
  have q1 : _ = some (vb ty) := cell_of_row _ w.heap.size 1 _ _ _ g1
  have q2 : _ = some (u32v sz) := cell_of_row _ w.heap.size 2 _ _ _ g1
  have q3 : _ = some (Value.slice da dl.length dc) := cell_of_row _ w.heap.size 3 _ _ _ g1
  have q4 : _ = some (vb 6) := cell_of_row _ w.heap.size 0 _ _ _ g1
  have H1 := hide hw1
  have HS1 := hide hs1
  clear hw0 hs0 hw1 hv1 hs1 g0 g1
  by_cases pt : ty = 0
  · by_cases ps : sz = 0
    · by_cases pd : dl.length = 0
      · have hk2 : decide (sz = 0 ∧ dl.length = 0) = true := decide_eq_true ⟨ps, pd⟩
        rw [hk2]
        clear hk2
        have T0 : (((ty.toNat : Nat) : Int) == 0) = true := by rw [pt]; rfl
        have S0 : ((sz : Int) == 0) = true := by rw [ps]; rfl
        have D0 : ((dl.length : Int) == 0) = true := by rw [pd]; rfl
        have DG : decide (0 < dl.length) = false := decide_eq_false (by omega)
        have EB := hide (hEB pd)
        clear hEB
        clear pt
        clear ps
        clear pd
        go_enter Try.func23, Try.ntmps23
        go_wp2_with fail
        refine wp_region_app 4 [isV (.slice (some ⟨w.heap.size + 1, 0, Option.none⟩) 1 1), isV (.pointer (some ⟨w.heap.size, 1, Option.none⟩)), isV (vb ty), (fun v X => IsBytes X v [ty]), (fun _ _ => True), isV (.pointer (some ⟨w.heap.size, 2, Option.none⟩)), isV (u32v sz), isV (.bool true), isV (.bool true), isV (.pointer (some ⟨w.heap.size, 3, Option.none⟩)), isV (.slice da dl.length dc), isV (.int .i64 ((dl.length : Nat) : Int)), isV (.bool true), isV (.bool true), (fun _ _ => False), isV (.bool true)]
          [isV (.slice (some ⟨w.heap.size + 1, 0, Option.none⟩) 1 1), isV (.pointer (some ⟨w.heap.size, 1, Option.none⟩)), isV (vb ty), (fun _ _ => True), (fun v X => (ownR v [6, ty] * (EF w ⟨6, ty, sz, dl⟩ (.slice da dl.length dc))).on X), isV (.pointer (some ⟨w.heap.size, 2, Option.none⟩)), isV (u32v sz), isV (.bool true), isV (.bool true), isV (.pointer (some ⟨w.heap.size, 3, Option.none⟩)), isV (.slice da dl.length dc), isV (.int .i64 ((dl.length : Nat) : Int)), isV (.bool true), isV (.bool true), (fun v X => (ownR v [6, ty] * (EF w ⟨6, ty, sz, dl⟩ (.slice da dl.length dc))).on X), isV (.bool true)] _ rfl (by kernel_rfl) (by kernel_rfl) rfl (by decide) (EIv (ownR (.slice (some ⟨w.heap.size + 1, 0, Option.none⟩) 1 1) [6]) w ⟨6, ty, sz, dl⟩ (.slice da dl.length dc)) ⟨SP.on.drew H1.out, Str.drew HS1.out⟩ EIv.stay ?keep ?keep2 ?store ?todo ?rest
        case keep => exact ⟨Keep.isV _, Keep.isV _, Keep.isV _, fun _ _ _ h k => IsBytes.below h k, fun _ _ _ h _ => h, Keep.isV _, Keep.isV _, Keep.isV _, Keep.isV _, Keep.isV _, Keep.isV _, Keep.isV _, Keep.isV _, Keep.isV _, fun _ _ _ h _ => h, Keep.isV _, trivial⟩
        case keep2 => exact ⟨Keep.isV _, Keep.isV _, Keep.isV _, fun _ _ _ h _ => h, fun _ _ _ h k => SP.on.below h k, Keep.isV _, Keep.isV _, Keep.isV _, Keep.isV _, Keep.isV _, Keep.isV _, Keep.isV _, Keep.isV _, Keep.isV _, fun _ _ _ h k => SP.on.below h k, Keep.isV _, trivial⟩
        case store =>
          intro ev X hT hb hk hf
          have e0 : ev (.tmp 103) = .slice (some ⟨w.heap.size + 1, 0, Option.none⟩) 1 1 := hf.1
          have e1 : IsBytes X (ev (.tmp 106)) [ty] := hf.2.1
          refine OpOk.append_bytes (F := (EF w ⟨6, ty, sz, dl⟩ (.slice da dl.length dc))) _ _ _ rfl 5 hu infoR _ [6] [ty] e0 hT.1 e1 (by simp) ?_
          intro v' X2 ho hs
          simp only [List.cons_append, List.nil_append] at ho
          refine ⟨⟨ho.right, hT.2.trans hs⟩, ho, ?_⟩
          intro i his hv
          match i, his, hv with
          | 0, _, hv => exact hv
          | 1, _, hv => exact hv
          | 2, _, hv => exact hv
          | 3, _, _ => exact trivial
          | 4, h, _ => exact absurd rfl h
          | 5, _, hv => exact hv
          | 6, _, hv => exact hv
          | 7, _, hv => exact hv
          | 8, _, hv => exact hv
          | 9, _, hv => exact hv
          | 10, _, hv => exact hv
          | 11, _, hv => exact hv
          | 12, _, hv => exact hv
          | 13, _, hv => exact hv
          | 14, _, hv => exact hv.elim
          | 15, _, hv => exact hv
          | n + 16, _, _ => exact trivial
        case todo =>
          refine ⟨?_, ?_, ?_, ?_, ?_, ?_, ?_, ?_, ?_, ?_, ?_, ?_, ?_, ?_, ?_, ?_, trivial⟩
          · intro _ ph h1 h2
            obtain rfl : ph = false := h2 (by kernel_rfl)
            intro ev X hT hb hk hf
            have e0 : ev (.tmp 4) = .slice (some ⟨w.heap.size + 1, 0, Option.none⟩) 1 1 := hk.1
            exact OpOk.move rfl e0 ⟨rfl, Stay.refl _⟩
          · intro _ ph h1 h2
            cases ph
            all_goals
              intro ev X hT hb hk hf
              have e0 : ev (.tmp 1) = .pointer (some ⟨w.heap.size, 0, Option.none⟩) := hk.1
              exact OpOk.run (v := .pointer (some ⟨w.heap.size, 1, Option.none⟩)) (W' := X) (by simp [execOp, e0, hb.1, go_sem]) ⟨rfl, Stay.refl _⟩
          · intro _ ph h1 h2
            cases ph
            all_goals
              intro ev X hT hb hk hf
              have e0 : ev (.tmp 104) = .pointer (some ⟨w.heap.size, 1, Option.none⟩) := hf.1
              have cW := EIv.cell hT 1 rfl
              exact OpOk.run (v := vb ty) (W' := X) (by simp [execOp, e0, cW, go_sem]) ⟨rfl, Stay.refl _⟩
          · intro _ ph h1 h2
            obtain rfl : ph = false := h2 (by kernel_rfl)
            intro ev X hT hb hk hf
            have e0 : ev (.tmp 105) = vb ty := hf.1
            exact OpOk.run (v := .slice (some ⟨X.heap.size, 0, Option.none⟩) 1 1) (W' := X.alloc (.cells #[vb ty] 5)) (by simp [execOp, e0, go_sem]) ⟨isb1 _ _ _ (rfl) _, (Below.refl _ _).alloc (Nat.le_refl _) _⟩
          · exact fun h => absurd rfl h
          · intro _ ph h1 h2
            cases ph
            all_goals
              intro ev X hT hb hk hf
              have e0 : ev (.tmp 1) = .pointer (some ⟨w.heap.size, 0, Option.none⟩) := hk.1
              exact OpOk.run (v := .pointer (some ⟨w.heap.size, 2, Option.none⟩)) (W' := X) (by simp [execOp, e0, hb.1, go_sem]) ⟨rfl, Stay.refl _⟩
          · intro _ ph h1 h2
            cases ph
            all_goals
              intro ev X hT hb hk hf
              have e0 : ev (.tmp 108) = .pointer (some ⟨w.heap.size, 2, Option.none⟩) := hf.1
              have cW := EIv.cell hT 2 rfl
              exact OpOk.run (v := u32v sz) (W' := X) (by simp [execOp, e0, cW, go_sem]) ⟨rfl, Stay.refl _⟩
          · intro _ ph h1 h2
            cases ph
            all_goals
              intro ev X hT hb hk hf
              have e0 : ev (.tmp 109) = u32v sz := hf.1
              exact OpOk.run (v := .bool true) (W' := X) (by simp [execOp, e0, hb.1, S0, go_sem]) ⟨rfl, Stay.refl _⟩
          · intro _ ph h1 h2
            obtain rfl : ph = true := h1 (by kernel_rfl)
            intro ev X hT hb hk hf
            have e0 : ev (.tmp 110) = .bool true := hf.1
            exact OpOk.move rfl e0 ⟨rfl, Stay.refl _⟩
          · intro _ ph h1 h2
            cases ph
            all_goals
              intro ev X hT hb hk hf
              refine ⟨true, hf.1, fun _ => ?_, fun h => (h rfl).elim⟩
              have e0 : ev (.tmp 1) = .pointer (some ⟨w.heap.size, 0, Option.none⟩) := hk.1
              exact OpOk.run (v := .pointer (some ⟨w.heap.size, 3, Option.none⟩)) (W' := X) (by simp [execOp, e0, hb.1, go_sem]) ⟨rfl, Stay.refl _⟩
          · intro _ ph h1 h2
            cases ph
            all_goals
              intro ev X hT hb hk hf
              refine ⟨true, hf.2.1, fun _ => ?_, fun h => (h rfl).elim⟩
              have e0 : ev (.tmp 112) = .pointer (some ⟨w.heap.size, 3, Option.none⟩) := hf.1
              have cW := EIv.cell hT 3 rfl
              exact OpOk.run (v := .slice da dl.length dc) (W' := X) (by simp [execOp, e0, cW, go_sem]) ⟨rfl, Stay.refl _⟩
          · intro _ ph h1 h2
            cases ph
            all_goals
              intro ev X hT hb hk hf
              refine ⟨true, hf.2.1, fun _ => ?_, fun h => (h rfl).elim⟩
              have e0 : ev (.tmp 113) = .slice da dl.length dc := hf.1
              exact OpOk.run (v := .int .i64 ((dl.length : Nat) : Int)) (W' := X) (by simp [execOp, e0, hb.1, go_sem]) ⟨rfl, Stay.refl _⟩
          · intro _ ph h1 h2
            cases ph
            all_goals
              intro ev X hT hb hk hf
              refine ⟨true, hf.2.1, fun _ => ?_, fun h => (h rfl).elim⟩
              have e0 : ev (.tmp 114) = .int .i64 ((dl.length : Nat) : Int) := hf.1
              exact OpOk.run (v := .bool true) (W' := X) (by simp [execOp, e0, hb.1, D0, go_sem]) ⟨rfl, Stay.refl _⟩
          · intro _ ph h1 h2
            cases ph
            all_goals
              intro ev X hT hb hk hf
              have e0 : ev (.tmp 111) = .bool true := hf.1
              have e1 : ev (.tmp 115) = .bool true := hf.2.1
              exact OpOk.run (v := .bool true) (W' := X) (by simp [execOp, e0, e1, hb, hb.1, hb.2.1, hb.2.2, go_sem]) ⟨rfl, Stay.refl _⟩
          · intro _ ph h1 h2
            obtain rfl : ph = true := h1 (by kernel_rfl)
            intro ev X hT hb hk hf
            have e0 := hf.1
            exact OpOk.assign rfl rfl ⟨e0, Stay.refl _⟩
          · intro _ ph h1 h2
            obtain rfl : ph = true := h1 (by kernel_rfl)
            intro ev X hT hb hk hf
            have e0 : ev (.tmp 116) = .bool true := hf.1
            exact OpOk.assign rfl e0 ⟨rfl, Stay.refl _⟩
        case rest =>
          intro X hT
          rintro _ rfl _ rfl _ rfl _ - _ - _ rfl _ rfl _ rfl _ rfl _ rfl _ rfl _ rfl _ rfl _ rfl vo ho _ rfl
          obtain ⟨xa, xc, rfl, _, _, _, _⟩ := own_value ho
          have HO := hide ho
          have HST := hide hT
          clear ho hT
          go_wp2
          refine Rest.done ?_
          go_wp2_with fail
          go_ret2
          exact ⟨_, rfl, fun _ => by rw [EB.out]; exact own_bytes HO.out, all_below HST.out.1.right HST.out.2⟩
      · have hk2 : decide (sz = 0 ∧ dl.length = 0) = false := decide_eq_false (fun h => pd h.2)
        rw [hk2]
        clear hk2
        have T0 : (((ty.toNat : Nat) : Int) == 0) = true := by rw [pt]; rfl
        have S0 : ((sz : Int) == 0) = true := by rw [ps]; rfl
        have D0 : ((dl.length : Int) == 0) = false := by rw [beq_eq_false_iff_ne]; omega
        have DG : decide (0 < dl.length) = true := decide_eq_true (by omega)
        clear hEB
        clear pt
        clear ps
        clear pd
        go_enter Try.func23, Try.ntmps23
        go_wp2_with fail
        refine wp_region_app 4 [isV (.slice (some ⟨w.heap.size + 1, 0, Option.none⟩) 1 1), isV (.pointer (some ⟨w.heap.size, 1, Option.none⟩)), isV (vb ty), (fun v X => IsBytes X v [ty]), (fun _ _ => True), isV (.pointer (some ⟨w.heap.size, 2, Option.none⟩)), isV (u32v sz), isV (.bool true), isV (.bool true), isV (.pointer (some ⟨w.heap.size, 3, Option.none⟩)), isV (.slice da dl.length dc), isV (.int .i64 ((dl.length : Nat) : Int)), isV (.bool false), isV (.bool false), (fun _ _ => False), isV (.bool false)]
          [isV (.slice (some ⟨w.heap.size + 1, 0, Option.none⟩) 1 1), isV (.pointer (some ⟨w.heap.size, 1, Option.none⟩)), isV (vb ty), (fun _ _ => True), (fun v X => (ownR v [6, ty] * (EF w ⟨6, ty, sz, dl⟩ (.slice da dl.length dc))).on X), isV (.pointer (some ⟨w.heap.size, 2, Option.none⟩)), isV (u32v sz), isV (.bool true), isV (.bool true), isV (.pointer (some ⟨w.heap.size, 3, Option.none⟩)), isV (.slice da dl.length dc), isV (.int .i64 ((dl.length : Nat) : Int)), isV (.bool false), isV (.bool false), (fun v X => (ownR v [6, ty] * (EF w ⟨6, ty, sz, dl⟩ (.slice da dl.length dc))).on X), isV (.bool false)] _ rfl (by kernel_rfl) (by kernel_rfl) rfl (by decide) (EIv (ownR (.slice (some ⟨w.heap.size + 1, 0, Option.none⟩) 1 1) [6]) w ⟨6, ty, sz, dl⟩ (.slice da dl.length dc)) ⟨SP.on.drew H1.out, Str.drew HS1.out⟩ EIv.stay ?keep ?keep2 ?store ?todo ?rest
        case keep => exact ⟨Keep.isV _, Keep.isV _, Keep.isV _, fun _ _ _ h k => IsBytes.below h k, fun _ _ _ h _ => h, Keep.isV _, Keep.isV _, Keep.isV _, Keep.isV _, Keep.isV _, Keep.isV _, Keep.isV _, Keep.isV _, Keep.isV _, fun _ _ _ h _ => h, Keep.isV _, trivial⟩
        case keep2 => exact ⟨Keep.isV _, Keep.isV _, Keep.isV _, fun _ _ _ h _ => h, fun _ _ _ h k => SP.on.below h k, Keep.isV _, Keep.isV _, Keep.isV _, Keep.isV _, Keep.isV _, Keep.isV _, Keep.isV _, Keep.isV _, Keep.isV _, fun _ _ _ h k => SP.on.below h k, Keep.isV _, trivial⟩
        case store =>
          intro ev X hT hb hk hf
          have e0 : ev (.tmp 103) = .slice (some ⟨w.heap.size + 1, 0, Option.none⟩) 1 1 := hf.1
          have e1 : IsBytes X (ev (.tmp 106)) [ty] := hf.2.1
          refine OpOk.append_bytes (F := (EF w ⟨6, ty, sz, dl⟩ (.slice da dl.length dc))) _ _ _ rfl 5 hu infoR _ [6] [ty] e0 hT.1 e1 (by simp) ?_
          intro v' X2 ho hs
          simp only [List.cons_append, List.nil_append] at ho
          refine ⟨⟨ho.right, hT.2.trans hs⟩, ho, ?_⟩
          intro i his hv
          match i, his, hv with
          | 0, _, hv => exact hv
          | 1, _, hv => exact hv
          | 2, _, hv => exact hv
          | 3, _, _ => exact trivial
          | 4, h, _ => exact absurd rfl h
          | 5, _, hv => exact hv
          | 6, _, hv => exact hv
          | 7, _, hv => exact hv
          | 8, _, hv => exact hv
          | 9, _, hv => exact hv
          | 10, _, hv => exact hv
          | 11, _, hv => exact hv
          | 12, _, hv => exact hv
          | 13, _, hv => exact hv
          | 14, _, hv => exact hv.elim
          | 15, _, hv => exact hv
          | n + 16, _, _ => exact trivial
        case todo =>
          refine ⟨?_, ?_, ?_, ?_, ?_, ?_, ?_, ?_, ?_, ?_, ?_, ?_, ?_, ?_, ?_, ?_, trivial⟩
          · intro _ ph h1 h2
            obtain rfl : ph = false := h2 (by kernel_rfl)
            intro ev X hT hb hk hf
            have e0 : ev (.tmp 4) = .slice (some ⟨w.heap.size + 1, 0, Option.none⟩) 1 1 := hk.1
            exact OpOk.move rfl e0 ⟨rfl, Stay.refl _⟩
          · intro _ ph h1 h2
            cases ph
            all_goals
              intro ev X hT hb hk hf
              have e0 : ev (.tmp 1) = .pointer (some ⟨w.heap.size, 0, Option.none⟩) := hk.1
              exact OpOk.run (v := .pointer (some ⟨w.heap.size, 1, Option.none⟩)) (W' := X) (by simp [execOp, e0, hb.1, go_sem]) ⟨rfl, Stay.refl _⟩
          · intro _ ph h1 h2
            cases ph
            all_goals
              intro ev X hT hb hk hf
              have e0 : ev (.tmp 104) = .pointer (some ⟨w.heap.size, 1, Option.none⟩) := hf.1
              have cW := EIv.cell hT 1 rfl
              exact OpOk.run (v := vb ty) (W' := X) (by simp [execOp, e0, cW, go_sem]) ⟨rfl, Stay.refl _⟩
          · intro _ ph h1 h2
            obtain rfl : ph = false := h2 (by kernel_rfl)
            intro ev X hT hb hk hf
            have e0 : ev (.tmp 105) = vb ty := hf.1
            exact OpOk.run (v := .slice (some ⟨X.heap.size, 0, Option.none⟩) 1 1) (W' := X.alloc (.cells #[vb ty] 5)) (by simp [execOp, e0, go_sem]) ⟨isb1 _ _ _ (rfl) _, (Below.refl _ _).alloc (Nat.le_refl _) _⟩
          · exact fun h => absurd rfl h
          · intro _ ph h1 h2
            cases ph
            all_goals
              intro ev X hT hb hk hf
              have e0 : ev (.tmp 1) = .pointer (some ⟨w.heap.size, 0, Option.none⟩) := hk.1
              exact OpOk.run (v := .pointer (some ⟨w.heap.size, 2, Option.none⟩)) (W' := X) (by simp [execOp, e0, hb.1, go_sem]) ⟨rfl, Stay.refl _⟩
          · intro _ ph h1 h2
            cases ph
            all_goals
              intro ev X hT hb hk hf
              have e0 : ev (.tmp 108) = .pointer (some ⟨w.heap.size, 2, Option.none⟩) := hf.1
              have cW := EIv.cell hT 2 rfl
              exact OpOk.run (v := u32v sz) (W' := X) (by simp [execOp, e0, cW, go_sem]) ⟨rfl, Stay.refl _⟩
          · intro _ ph h1 h2
            cases ph
            all_goals
              intro ev X hT hb hk hf
              have e0 : ev (.tmp 109) = u32v sz := hf.1
              exact OpOk.run (v := .bool true) (W' := X) (by simp [execOp, e0, hb.1, S0, go_sem]) ⟨rfl, Stay.refl _⟩
          · intro _ ph h1 h2
            obtain rfl : ph = true := h1 (by kernel_rfl)
            intro ev X hT hb hk hf
            have e0 : ev (.tmp 110) = .bool true := hf.1
            exact OpOk.move rfl e0 ⟨rfl, Stay.refl _⟩
          · intro _ ph h1 h2
            cases ph
            all_goals
              intro ev X hT hb hk hf
              refine ⟨true, hf.1, fun _ => ?_, fun h => (h rfl).elim⟩
              have e0 : ev (.tmp 1) = .pointer (some ⟨w.heap.size, 0, Option.none⟩) := hk.1
              exact OpOk.run (v := .pointer (some ⟨w.heap.size, 3, Option.none⟩)) (W' := X) (by simp [execOp, e0, hb.1, go_sem]) ⟨rfl, Stay.refl _⟩
          · intro _ ph h1 h2
            cases ph
            all_goals
              intro ev X hT hb hk hf
              refine ⟨true, hf.2.1, fun _ => ?_, fun h => (h rfl).elim⟩
              have e0 : ev (.tmp 112) = .pointer (some ⟨w.heap.size, 3, Option.none⟩) := hf.1
              have cW := EIv.cell hT 3 rfl
              exact OpOk.run (v := .slice da dl.length dc) (W' := X) (by simp [execOp, e0, cW, go_sem]) ⟨rfl, Stay.refl _⟩
          · intro _ ph h1 h2
            cases ph
            all_goals
              intro ev X hT hb hk hf
              refine ⟨true, hf.2.1, fun _ => ?_, fun h => (h rfl).elim⟩
              have e0 : ev (.tmp 113) = .slice da dl.length dc := hf.1
              exact OpOk.run (v := .int .i64 ((dl.length : Nat) : Int)) (W' := X) (by simp [execOp, e0, hb.1, go_sem]) ⟨rfl, Stay.refl _⟩
          · intro _ ph h1 h2
            cases ph
            all_goals
              intro ev X hT hb hk hf
              refine ⟨true, hf.2.1, fun _ => ?_, fun h => (h rfl).elim⟩
              have e0 : ev (.tmp 114) = .int .i64 ((dl.length : Nat) : Int) := hf.1
              exact OpOk.run (v := .bool false) (W' := X) (by simp [execOp, e0, hb.1, D0, go_sem]) ⟨rfl, Stay.refl _⟩
          · intro _ ph h1 h2
            cases ph
            all_goals
              intro ev X hT hb hk hf
              have e0 : ev (.tmp 111) = .bool true := hf.1
              have e1 : ev (.tmp 115) = .bool false := hf.2.1
              exact OpOk.run (v := .bool false) (W' := X) (by simp [execOp, e0, e1, hb, hb.1, hb.2.1, hb.2.2, go_sem]) ⟨rfl, Stay.refl _⟩
          · intro _ ph h1 h2
            obtain rfl : ph = true := h1 (by kernel_rfl)
            intro ev X hT hb hk hf
            have e0 := hf.1
            exact OpOk.assign rfl rfl ⟨e0, Stay.refl _⟩
          · intro _ ph h1 h2
            obtain rfl : ph = true := h1 (by kernel_rfl)
            intro ev X hT hb hk hf
            have e0 : ev (.tmp 116) = .bool false := hf.1
            exact OpOk.assign rfl e0 ⟨rfl, Stay.refl _⟩
        case rest =>
          intro X hT
          rintro _ rfl _ rfl _ rfl _ - _ - _ rfl _ rfl _ rfl _ rfl _ rfl _ rfl _ rfl _ rfl _ rfl vo ho _ rfl
          obtain ⟨xa, xc, rfl, _, _, _, _⟩ := own_value ho
          have HO := hide ho
          have HST := hide hT
          clear ho hT
          go_wp2
          refine Rest.done ?_
          go_wp2_with fail
          go_ret2
          exact ⟨_, rfl, (fun h => by cases h), all_below HST.out.1.right HST.out.2⟩
    · have hk2 : decide (sz = 0 ∧ dl.length = 0) = false := decide_eq_false (fun h => ps h.1)
      rw [hk2]
      clear hk2
      have T0 : (((ty.toNat : Nat) : Int) == 0) = true := by rw [pt]; rfl
      have S0 : ((sz : Int) == 0) = false := by rw [beq_eq_false_iff_ne]; omega
      clear hEB
      clear pt
      clear ps
      go_enter Try.func23, Try.ntmps23
      go_wp2_with fail
      refine wp_region_app 4 [isV (.slice (some ⟨w.heap.size + 1, 0, Option.none⟩) 1 1), isV (.pointer (some ⟨w.heap.size, 1, Option.none⟩)), isV (vb ty), (fun v X => IsBytes X v [ty]), (fun _ _ => True), isV (.pointer (some ⟨w.heap.size, 2, Option.none⟩)), isV (u32v sz), isV (.bool false), isV (.bool false), isV (undef), isV (undef), isV (undef), isV (undef), isV (.bool false), (fun _ _ => False), isV (.bool false)]
        [isV (.slice (some ⟨w.heap.size + 1, 0, Option.none⟩) 1 1), isV (.pointer (some ⟨w.heap.size, 1, Option.none⟩)), isV (vb ty), (fun _ _ => True), (fun v X => (ownR v [6, ty] * (EF w ⟨6, ty, sz, dl⟩ (.slice da dl.length dc))).on X), isV (.pointer (some ⟨w.heap.size, 2, Option.none⟩)), isV (u32v sz), isV (.bool false), isV (.bool false), isV (undef), isV (undef), isV (undef), isV (undef), isV (.bool false), (fun v X => (ownR v [6, ty] * (EF w ⟨6, ty, sz, dl⟩ (.slice da dl.length dc))).on X), isV (.bool false)] _ rfl (by kernel_rfl) (by kernel_rfl) rfl (by decide) (EIv (ownR (.slice (some ⟨w.heap.size + 1, 0, Option.none⟩) 1 1) [6]) w ⟨6, ty, sz, dl⟩ (.slice da dl.length dc)) ⟨SP.on.drew H1.out, Str.drew HS1.out⟩ EIv.stay ?keep ?keep2 ?store ?todo ?rest
      case keep => exact ⟨Keep.isV _, Keep.isV _, Keep.isV _, fun _ _ _ h k => IsBytes.below h k, fun _ _ _ h _ => h, Keep.isV _, Keep.isV _, Keep.isV _, Keep.isV _, Keep.isV _, Keep.isV _, Keep.isV _, Keep.isV _, Keep.isV _, fun _ _ _ h _ => h, Keep.isV _, trivial⟩
      case keep2 => exact ⟨Keep.isV _, Keep.isV _, Keep.isV _, fun _ _ _ h _ => h, fun _ _ _ h k => SP.on.below h k, Keep.isV _, Keep.isV _, Keep.isV _, Keep.isV _, Keep.isV _, Keep.isV _, Keep.isV _, Keep.isV _, Keep.isV _, fun _ _ _ h k => SP.on.below h k, Keep.isV _, trivial⟩
      case store =>
        intro ev X hT hb hk hf
        have e0 : ev (.tmp 103) = .slice (some ⟨w.heap.size + 1, 0, Option.none⟩) 1 1 := hf.1
        have e1 : IsBytes X (ev (.tmp 106)) [ty] := hf.2.1
        refine OpOk.append_bytes (F := (EF w ⟨6, ty, sz, dl⟩ (.slice da dl.length dc))) _ _ _ rfl 5 hu infoR _ [6] [ty] e0 hT.1 e1 (by simp) ?_
        intro v' X2 ho hs
        simp only [List.cons_append, List.nil_append] at ho
        refine ⟨⟨ho.right, hT.2.trans hs⟩, ho, ?_⟩
        intro i his hv
        match i, his, hv with
        | 0, _, hv => exact hv
        | 1, _, hv => exact hv
        | 2, _, hv => exact hv
        | 3, _, _ => exact trivial
        | 4, h, _ => exact absurd rfl h
        | 5, _, hv => exact hv
        | 6, _, hv => exact hv
        | 7, _, hv => exact hv
        | 8, _, hv => exact hv
        | 9, _, hv => exact hv
        | 10, _, hv => exact hv
        | 11, _, hv => exact hv
        | 12, _, hv => exact hv
        | 13, _, hv => exact hv
        | 14, _, hv => exact hv.elim
        | 15, _, hv => exact hv
        | n + 16, _, _ => exact trivial
      case todo =>
        refine ⟨?_, ?_, ?_, ?_, ?_, ?_, ?_, ?_, ?_, ?_, ?_, ?_, ?_, ?_, ?_, ?_, trivial⟩
        · intro _ ph h1 h2
          obtain rfl : ph = false := h2 (by kernel_rfl)
          intro ev X hT hb hk hf
          have e0 : ev (.tmp 4) = .slice (some ⟨w.heap.size + 1, 0, Option.none⟩) 1 1 := hk.1
          exact OpOk.move rfl e0 ⟨rfl, Stay.refl _⟩
        · intro _ ph h1 h2
          cases ph
          all_goals
            intro ev X hT hb hk hf
            have e0 : ev (.tmp 1) = .pointer (some ⟨w.heap.size, 0, Option.none⟩) := hk.1
            exact OpOk.run (v := .pointer (some ⟨w.heap.size, 1, Option.none⟩)) (W' := X) (by simp [execOp, e0, hb.1, go_sem]) ⟨rfl, Stay.refl _⟩
        · intro _ ph h1 h2
          cases ph
          all_goals
            intro ev X hT hb hk hf
            have e0 : ev (.tmp 104) = .pointer (some ⟨w.heap.size, 1, Option.none⟩) := hf.1
            have cW := EIv.cell hT 1 rfl
            exact OpOk.run (v := vb ty) (W' := X) (by simp [execOp, e0, cW, go_sem]) ⟨rfl, Stay.refl _⟩
        · intro _ ph h1 h2
          obtain rfl : ph = false := h2 (by kernel_rfl)
          intro ev X hT hb hk hf
          have e0 : ev (.tmp 105) = vb ty := hf.1
          exact OpOk.run (v := .slice (some ⟨X.heap.size, 0, Option.none⟩) 1 1) (W' := X.alloc (.cells #[vb ty] 5)) (by simp [execOp, e0, go_sem]) ⟨isb1 _ _ _ (rfl) _, (Below.refl _ _).alloc (Nat.le_refl _) _⟩
        · exact fun h => absurd rfl h
        · intro _ ph h1 h2
          cases ph
          all_goals
            intro ev X hT hb hk hf
            have e0 : ev (.tmp 1) = .pointer (some ⟨w.heap.size, 0, Option.none⟩) := hk.1
            exact OpOk.run (v := .pointer (some ⟨w.heap.size, 2, Option.none⟩)) (W' := X) (by simp [execOp, e0, hb.1, go_sem]) ⟨rfl, Stay.refl _⟩
        · intro _ ph h1 h2
          cases ph
          all_goals
            intro ev X hT hb hk hf
            have e0 : ev (.tmp 108) = .pointer (some ⟨w.heap.size, 2, Option.none⟩) := hf.1
            have cW := EIv.cell hT 2 rfl
            exact OpOk.run (v := u32v sz) (W' := X) (by simp [execOp, e0, cW, go_sem]) ⟨rfl, Stay.refl _⟩
        · intro _ ph h1 h2
          cases ph
          all_goals
            intro ev X hT hb hk hf
            have e0 : ev (.tmp 109) = u32v sz := hf.1
            exact OpOk.run (v := .bool false) (W' := X) (by simp [execOp, e0, hb.1, S0, go_sem]) ⟨rfl, Stay.refl _⟩
        · intro _ ph h1 h2
          obtain rfl : ph = true := h1 (by kernel_rfl)
          intro ev X hT hb hk hf
          have e0 : ev (.tmp 110) = .bool false := hf.1
          exact OpOk.move rfl e0 ⟨rfl, Stay.refl _⟩
        · intro _ ph h1 h2
          cases ph
          all_goals
            intro ev X hT hb hk hf
            exact ⟨false, hf.1, fun h => (nomatch h), fun _ => rfl⟩
        · intro _ ph h1 h2
          cases ph
          all_goals
            intro ev X hT hb hk hf
            exact ⟨false, hf.2.1, fun h => (nomatch h), fun _ => rfl⟩
        · intro _ ph h1 h2
          cases ph
          all_goals
            intro ev X hT hb hk hf
            exact ⟨false, hf.2.1, fun h => (nomatch h), fun _ => rfl⟩
        · intro _ ph h1 h2
          cases ph
          all_goals
            intro ev X hT hb hk hf
            exact ⟨false, hf.2.1, fun h => (nomatch h), fun _ => rfl⟩
        · intro _ ph h1 h2
          cases ph
          all_goals
            intro ev X hT hb hk hf
            have e0 : ev (.tmp 111) = .bool false := hf.1
            have e1 : ev (.tmp 115) = undef := hf.2.1
            exact OpOk.run (v := .bool false) (W' := X) (by simp [execOp, e0, e1, hb, hb.1, hb.2.1, hb.2.2, go_sem]) ⟨rfl, Stay.refl _⟩
        · intro _ ph h1 h2
          obtain rfl : ph = true := h1 (by kernel_rfl)
          intro ev X hT hb hk hf
          have e0 := hf.1
          exact OpOk.assign rfl rfl ⟨e0, Stay.refl _⟩
        · intro _ ph h1 h2
          obtain rfl : ph = true := h1 (by kernel_rfl)
          intro ev X hT hb hk hf
          have e0 : ev (.tmp 116) = .bool false := hf.1
          exact OpOk.assign rfl e0 ⟨rfl, Stay.refl _⟩
      case rest =>
        intro X hT
        rintro _ rfl _ rfl _ rfl _ - _ - _ rfl _ rfl _ rfl _ rfl _ rfl _ rfl _ rfl _ rfl _ rfl vo ho _ rfl
        obtain ⟨xa, xc, rfl, _, _, _, _⟩ := own_value ho
        have HO := hide ho
        have HST := hide hT
        clear ho hT
        go_wp2
        refine Rest.done ?_
        go_wp2_with fail
        go_ret2
        exact ⟨_, rfl, (fun h => by cases h), all_below HST.out.1.right HST.out.2⟩
  · by_cases ps : sz = 0
    · by_cases pd : dl.length = 0
      · have hk2 : decide (sz = 0 ∧ dl.length = 0) = true := decide_eq_true ⟨ps, pd⟩
        rw [hk2]
        clear hk2
        have T0 : (((ty.toNat : Nat) : Int) == 0) = false := by rw [beq_eq_false_iff_ne]; intro e; exact pt (UInt8.toNat_inj.1 (by simpa using e))
        have S0 : ((sz : Int) == 0) = true := by rw [ps]; rfl
        have D0 : ((dl.length : Int) == 0) = true := by rw [pd]; rfl
        have DG : decide (0 < dl.length) = false := decide_eq_false (by omega)
        have EB := hide (hEB pd)
        clear hEB
        clear pt
        clear ps
        clear pd
        go_enter Try.func23, Try.ntmps23
        go_wp2_with fail
        refine wp_region_app 4 [isV (.slice (some ⟨w.heap.size + 1, 0, Option.none⟩) 1 1), isV (.pointer (some ⟨w.heap.size, 1, Option.none⟩)), isV (vb ty), (fun v X => IsBytes X v [ty]), (fun _ _ => True), isV (.pointer (some ⟨w.heap.size, 2, Option.none⟩)), isV (u32v sz), isV (.bool true), isV (.bool true), isV (.pointer (some ⟨w.heap.size, 3, Option.none⟩)), isV (.slice da dl.length dc), isV (.int .i64 ((dl.length : Nat) : Int)), isV (.bool true), isV (.bool true), (fun _ _ => False), isV (.bool true)]
          [isV (.slice (some ⟨w.heap.size + 1, 0, Option.none⟩) 1 1), isV (.pointer (some ⟨w.heap.size, 1, Option.none⟩)), isV (vb ty), (fun _ _ => True), (fun v X => (ownR v [6, ty] * (EF w ⟨6, ty, sz, dl⟩ (.slice da dl.length dc))).on X), isV (.pointer (some ⟨w.heap.size, 2, Option.none⟩)), isV (u32v sz), isV (.bool true), isV (.bool true), isV (.pointer (some ⟨w.heap.size, 3, Option.none⟩)), isV (.slice da dl.length dc), isV (.int .i64 ((dl.length : Nat) : Int)), isV (.bool true), isV (.bool true), (fun v X => (ownR v [6, ty] * (EF w ⟨6, ty, sz, dl⟩ (.slice da dl.length dc))).on X), isV (.bool true)] _ rfl (by kernel_rfl) (by kernel_rfl) rfl (by decide) (EIv (ownR (.slice (some ⟨w.heap.size + 1, 0, Option.none⟩) 1 1) [6]) w ⟨6, ty, sz, dl⟩ (.slice da dl.length dc)) ⟨SP.on.drew H1.out, Str.drew HS1.out⟩ EIv.stay ?keep ?keep2 ?store ?todo ?rest
        case keep => exact ⟨Keep.isV _, Keep.isV _, Keep.isV _, fun _ _ _ h k => IsBytes.below h k, fun _ _ _ h _ => h, Keep.isV _, Keep.isV _, Keep.isV _, Keep.isV _, Keep.isV _, Keep.isV _, Keep.isV _, Keep.isV _, Keep.isV _, fun _ _ _ h _ => h, Keep.isV _, trivial⟩
        case keep2 => exact ⟨Keep.isV _, Keep.isV _, Keep.isV _, fun _ _ _ h _ => h, fun _ _ _ h k => SP.on.below h k, Keep.isV _, Keep.isV _, Keep.isV _, Keep.isV _, Keep.isV _, Keep.isV _, Keep.isV _, Keep.isV _, Keep.isV _, fun _ _ _ h k => SP.on.below h k, Keep.isV _, trivial⟩
        case store =>
          intro ev X hT hb hk hf
          have e0 : ev (.tmp 103) = .slice (some ⟨w.heap.size + 1, 0, Option.none⟩) 1 1 := hf.1
          have e1 : IsBytes X (ev (.tmp 106)) [ty] := hf.2.1
          refine OpOk.append_bytes (F := (EF w ⟨6, ty, sz, dl⟩ (.slice da dl.length dc))) _ _ _ rfl 5 hu infoR _ [6] [ty] e0 hT.1 e1 (by simp) ?_
          intro v' X2 ho hs
          simp only [List.cons_append, List.nil_append] at ho
          refine ⟨⟨ho.right, hT.2.trans hs⟩, ho, ?_⟩
          intro i his hv
          match i, his, hv with
          | 0, _, hv => exact hv
          | 1, _, hv => exact hv
          | 2, _, hv => exact hv
          | 3, _, _ => exact trivial
          | 4, h, _ => exact absurd rfl h
          | 5, _, hv => exact hv
          | 6, _, hv => exact hv
          | 7, _, hv => exact hv
          | 8, _, hv => exact hv
          | 9, _, hv => exact hv
          | 10, _, hv => exact hv
          | 11, _, hv => exact hv
          | 12, _, hv => exact hv
          | 13, _, hv => exact hv
          | 14, _, hv => exact hv.elim
          | 15, _, hv => exact hv
          | n + 16, _, _ => exact trivial
        case todo =>
          refine ⟨?_, ?_, ?_, ?_, ?_, ?_, ?_, ?_, ?_, ?_, ?_, ?_, ?_, ?_, ?_, ?_, trivial⟩
          · intro _ ph h1 h2
            obtain rfl : ph = false := h2 (by kernel_rfl)
            intro ev X hT hb hk hf
            have e0 : ev (.tmp 4) = .slice (some ⟨w.heap.size + 1, 0, Option.none⟩) 1 1 := hk.1
            exact OpOk.move rfl e0 ⟨rfl, Stay.refl _⟩
          · intro _ ph h1 h2
            cases ph
            all_goals
              intro ev X hT hb hk hf
              have e0 : ev (.tmp 1) = .pointer (some ⟨w.heap.size, 0, Option.none⟩) := hk.1
              exact OpOk.run (v := .pointer (some ⟨w.heap.size, 1, Option.none⟩)) (W' := X) (by simp [execOp, e0, hb.1, go_sem]) ⟨rfl, Stay.refl _⟩
          · intro _ ph h1 h2
            cases ph
            all_goals
              intro ev X hT hb hk hf
              have e0 : ev (.tmp 104) = .pointer (some ⟨w.heap.size, 1, Option.none⟩) := hf.1
              have cW := EIv.cell hT 1 rfl
              exact OpOk.run (v := vb ty) (W' := X) (by simp [execOp, e0, cW, go_sem]) ⟨rfl, Stay.refl _⟩
          · intro _ ph h1 h2
            obtain rfl : ph = false := h2 (by kernel_rfl)
            intro ev X hT hb hk hf
            have e0 : ev (.tmp 105) = vb ty := hf.1
            exact OpOk.run (v := .slice (some ⟨X.heap.size, 0, Option.none⟩) 1 1) (W' := X.alloc (.cells #[vb ty] 5)) (by simp [execOp, e0, go_sem]) ⟨isb1 _ _ _ (rfl) _, (Below.refl _ _).alloc (Nat.le_refl _) _⟩
          · exact fun h => absurd rfl h
          · intro _ ph h1 h2
            cases ph
            all_goals
              intro ev X hT hb hk hf
              have e0 : ev (.tmp 1) = .pointer (some ⟨w.heap.size, 0, Option.none⟩) := hk.1
              exact OpOk.run (v := .pointer (some ⟨w.heap.size, 2, Option.none⟩)) (W' := X) (by simp [execOp, e0, hb.1, go_sem]) ⟨rfl, Stay.refl _⟩
          · intro _ ph h1 h2
            cases ph
            all_goals
              intro ev X hT hb hk hf
              have e0 : ev (.tmp 108) = .pointer (some ⟨w.heap.size, 2, Option.none⟩) := hf.1
              have cW := EIv.cell hT 2 rfl
              exact OpOk.run (v := u32v sz) (W' := X) (by simp [execOp, e0, cW, go_sem]) ⟨rfl, Stay.refl _⟩
          · intro _ ph h1 h2
            cases ph
            all_goals
              intro ev X hT hb hk hf
              have e0 : ev (.tmp 109) = u32v sz := hf.1
              exact OpOk.run (v := .bool true) (W' := X) (by simp [execOp, e0, hb.1, S0, go_sem]) ⟨rfl, Stay.refl _⟩
          · intro _ ph h1 h2
            obtain rfl : ph = true := h1 (by kernel_rfl)
            intro ev X hT hb hk hf
            have e0 : ev (.tmp 110) = .bool true := hf.1
            exact OpOk.move rfl e0 ⟨rfl, Stay.refl _⟩
          · intro _ ph h1 h2
            cases ph
            all_goals
              intro ev X hT hb hk hf
              refine ⟨true, hf.1, fun _ => ?_, fun h => (h rfl).elim⟩
              have e0 : ev (.tmp 1) = .pointer (some ⟨w.heap.size, 0, Option.none⟩) := hk.1
              exact OpOk.run (v := .pointer (some ⟨w.heap.size, 3, Option.none⟩)) (W' := X) (by simp [execOp, e0, hb.1, go_sem]) ⟨rfl, Stay.refl _⟩
          · intro _ ph h1 h2
            cases ph
            all_goals
              intro ev X hT hb hk hf
              refine ⟨true, hf.2.1, fun _ => ?_, fun h => (h rfl).elim⟩
              have e0 : ev (.tmp 112) = .pointer (some ⟨w.heap.size, 3, Option.none⟩) := hf.1
              have cW := EIv.cell hT 3 rfl
              exact OpOk.run (v := .slice da dl.length dc) (W' := X) (by simp [execOp, e0, cW, go_sem]) ⟨rfl, Stay.refl _⟩
          · intro _ ph h1 h2
            cases ph
            all_goals
              intro ev X hT hb hk hf
              refine ⟨true, hf.2.1, fun _ => ?_, fun h => (h rfl).elim⟩
              have e0 : ev (.tmp 113) = .slice da dl.length dc := hf.1
              exact OpOk.run (v := .int .i64 ((dl.length : Nat) : Int)) (W' := X) (by simp [execOp, e0, hb.1, go_sem]) ⟨rfl, Stay.refl _⟩
          · intro _ ph h1 h2
            cases ph
            all_goals
              intro ev X hT hb hk hf
              refine ⟨true, hf.2.1, fun _ => ?_, fun h => (h rfl).elim⟩
              have e0 : ev (.tmp 114) = .int .i64 ((dl.length : Nat) : Int) := hf.1
              exact OpOk.run (v := .bool true) (W' := X) (by simp [execOp, e0, hb.1, D0, go_sem]) ⟨rfl, Stay.refl _⟩
          · intro _ ph h1 h2
            cases ph
            all_goals
              intro ev X hT hb hk hf
              have e0 : ev (.tmp 111) = .bool true := hf.1
              have e1 : ev (.tmp 115) = .bool true := hf.2.1
              exact OpOk.run (v := .bool true) (W' := X) (by simp [execOp, e0, e1, hb, hb.1, hb.2.1, hb.2.2, go_sem]) ⟨rfl, Stay.refl _⟩
          · intro _ ph h1 h2
            obtain rfl : ph = true := h1 (by kernel_rfl)
            intro ev X hT hb hk hf
            have e0 := hf.1
            exact OpOk.assign rfl rfl ⟨e0, Stay.refl _⟩
          · intro _ ph h1 h2
            obtain rfl : ph = true := h1 (by kernel_rfl)
            intro ev X hT hb hk hf
            have e0 : ev (.tmp 116) = .bool true := hf.1
            exact OpOk.assign rfl e0 ⟨rfl, Stay.refl _⟩
        case rest =>
          intro X hT
          rintro _ rfl _ rfl _ rfl _ - _ - _ rfl _ rfl _ rfl _ rfl _ rfl _ rfl _ rfl _ rfl _ rfl vo ho _ rfl
          obtain ⟨xa, xc, rfl, _, _, _, _⟩ := own_value ho
          have HO := hide ho
          have HST := hide hT
          clear ho hT
          go_wp2
          refine Rest.done ?_
          go_wp2_with fail
          go_ret2
          exact ⟨_, rfl, fun _ => by rw [EB.out]; exact own_bytes HO.out, all_below HST.out.1.right HST.out.2⟩
      · have hk2 : decide (sz = 0 ∧ dl.length = 0) = false := decide_eq_false (fun h => pd h.2)
        rw [hk2]
        clear hk2
        have T0 : (((ty.toNat : Nat) : Int) == 0) = false := by rw [beq_eq_false_iff_ne]; intro e; exact pt (UInt8.toNat_inj.1 (by simpa using e))
        have S0 : ((sz : Int) == 0) = true := by rw [ps]; rfl
        have D0 : ((dl.length : Int) == 0) = false := by rw [beq_eq_false_iff_ne]; omega
        have DG : decide (0 < dl.length) = true := decide_eq_true (by omega)
        clear hEB
        clear pt
        clear ps
        clear pd
        go_enter Try.func23, Try.ntmps23
        go_wp2_with fail
        refine wp_region_app 4 [isV (.slice (some ⟨w.heap.size + 1, 0, Option.none⟩) 1 1), isV (.pointer (some ⟨w.heap.size, 1, Option.none⟩)), isV (vb ty), (fun v X => IsBytes X v [ty]), (fun _ _ => True), isV (.pointer (some ⟨w.heap.size, 2, Option.none⟩)), isV (u32v sz), isV (.bool true), isV (.bool true), isV (.pointer (some ⟨w.heap.size, 3, Option.none⟩)), isV (.slice da dl.length dc), isV (.int .i64 ((dl.length : Nat) : Int)), isV (.bool false), isV (.bool false), (fun _ _ => False), isV (.bool false)]
          [isV (.slice (some ⟨w.heap.size + 1, 0, Option.none⟩) 1 1), isV (.pointer (some ⟨w.heap.size, 1, Option.none⟩)), isV (vb ty), (fun _ _ => True), (fun v X => (ownR v [6, ty] * (EF w ⟨6, ty, sz, dl⟩ (.slice da dl.length dc))).on X), isV (.pointer (some ⟨w.heap.size, 2, Option.none⟩)), isV (u32v sz), isV (.bool true), isV (.bool true), isV (.pointer (some ⟨w.heap.size, 3, Option.none⟩)), isV (.slice da dl.length dc), isV (.int .i64 ((dl.length : Nat) : Int)), isV (.bool false), isV (.bool false), (fun v X => (ownR v [6, ty] * (EF w ⟨6, ty, sz, dl⟩ (.slice da dl.length dc))).on X), isV (.bool false)] _ rfl (by kernel_rfl) (by kernel_rfl) rfl (by decide) (EIv (ownR (.slice (some ⟨w.heap.size + 1, 0, Option.none⟩) 1 1) [6]) w ⟨6, ty, sz, dl⟩ (.slice da dl.length dc)) ⟨SP.on.drew H1.out, Str.drew HS1.out⟩ EIv.stay ?keep ?keep2 ?store ?todo ?rest
        case keep => exact ⟨Keep.isV _, Keep.isV _, Keep.isV _, fun _ _ _ h k => IsBytes.below h k, fun _ _ _ h _ => h, Keep.isV _, Keep.isV _, Keep.isV _, Keep.isV _, Keep.isV _, Keep.isV _, Keep.isV _, Keep.isV _, Keep.isV _, fun _ _ _ h _ => h, Keep.isV _, trivial⟩
        case keep2 => exact ⟨Keep.isV _, Keep.isV _, Keep.isV _, fun _ _ _ h _ => h, fun _ _ _ h k => SP.on.below h k, Keep.isV _, Keep.isV _, Keep.isV _, Keep.isV _, Keep.isV _, Keep.isV _, Keep.isV _, Keep.isV _, Keep.isV _, fun _ _ _ h k => SP.on.below h k, Keep.isV _, trivial⟩
        case store =>
          intro ev X hT hb hk hf
          have e0 : ev (.tmp 103) = .slice (some ⟨w.heap.size + 1, 0, Option.none⟩) 1 1 := hf.1
          have e1 : IsBytes X (ev (.tmp 106)) [ty] := hf.2.1
          refine OpOk.append_bytes (F := (EF w ⟨6, ty, sz, dl⟩ (.slice da dl.length dc))) _ _ _ rfl 5 hu infoR _ [6] [ty] e0 hT.1 e1 (by simp) ?_
          intro v' X2 ho hs
          simp only [List.cons_append, List.nil_append] at ho
          refine ⟨⟨ho.right, hT.2.trans hs⟩, ho, ?_⟩
          intro i his hv
          match i, his, hv with
          | 0, _, hv => exact hv
          | 1, _, hv => exact hv
          | 2, _, hv => exact hv
          | 3, _, _ => exact trivial
          | 4, h, _ => exact absurd rfl h
          | 5, _, hv => exact hv
          | 6, _, hv => exact hv
          | 7, _, hv => exact hv
          | 8, _, hv => exact hv
          | 9, _, hv => exact hv
          | 10, _, hv => exact hv
          | 11, _, hv => exact hv
          | 12, _, hv => exact hv
          | 13, _, hv => exact hv
          | 14, _, hv => exact hv.elim
          | 15, _, hv => exact hv
          | n + 16, _, _ => exact trivial
        case todo =>
          refine ⟨?_, ?_, ?_, ?_, ?_, ?_, ?_, ?_, ?_, ?_, ?_, ?_, ?_, ?_, ?_, ?_, trivial⟩
          · intro _ ph h1 h2
            obtain rfl : ph = false := h2 (by kernel_rfl)
            intro ev X hT hb hk hf
            have e0 : ev (.tmp 4) = .slice (some ⟨w.heap.size + 1, 0, Option.none⟩) 1 1 := hk.1
            exact OpOk.move rfl e0 ⟨rfl, Stay.refl _⟩
          · intro _ ph h1 h2
            cases ph
            all_goals
              intro ev X hT hb hk hf
              have e0 : ev (.tmp 1) = .pointer (some ⟨w.heap.size, 0, Option.none⟩) := hk.1
              exact OpOk.run (v := .pointer (some ⟨w.heap.size, 1, Option.none⟩)) (W' := X) (by simp [execOp, e0, hb.1, go_sem]) ⟨rfl, Stay.refl _⟩
          · intro _ ph h1 h2
            cases ph
            all_goals
              intro ev X hT hb hk hf
              have e0 : ev (.tmp 104) = .pointer (some ⟨w.heap.size, 1, Option.none⟩) := hf.1
              have cW := EIv.cell hT 1 rfl
              exact OpOk.run (v := vb ty) (W' := X) (by simp [execOp, e0, cW, go_sem]) ⟨rfl, Stay.refl _⟩
          · intro _ ph h1 h2
            obtain rfl : ph = false := h2 (by kernel_rfl)
            intro ev X hT hb hk hf
            have e0 : ev (.tmp 105) = vb ty := hf.1
            exact OpOk.run (v := .slice (some ⟨X.heap.size, 0, Option.none⟩) 1 1) (W' := X.alloc (.cells #[vb ty] 5)) (by simp [execOp, e0, go_sem]) ⟨isb1 _ _ _ (rfl) _, (Below.refl _ _).alloc (Nat.le_refl _) _⟩
          · exact fun h => absurd rfl h
          · intro _ ph h1 h2
            cases ph
            all_goals
              intro ev X hT hb hk hf
              have e0 : ev (.tmp 1) = .pointer (some ⟨w.heap.size, 0, Option.none⟩) := hk.1
              exact OpOk.run (v := .pointer (some ⟨w.heap.size, 2, Option.none⟩)) (W' := X) (by simp [execOp, e0, hb.1, go_sem]) ⟨rfl, Stay.refl _⟩
          · intro _ ph h1 h2
            cases ph
            all_goals
              intro ev X hT hb hk hf
              have e0 : ev (.tmp 108) = .pointer (some ⟨w.heap.size, 2, Option.none⟩) := hf.1
              have cW := EIv.cell hT 2 rfl
              exact OpOk.run (v := u32v sz) (W' := X) (by simp [execOp, e0, cW, go_sem]) ⟨rfl, Stay.refl _⟩
          · intro _ ph h1 h2
            cases ph
            all_goals
              intro ev X hT hb hk hf
              have e0 : ev (.tmp 109) = u32v sz := hf.1
              exact OpOk.run (v := .bool true) (W' := X) (by simp [execOp, e0, hb.1, S0, go_sem]) ⟨rfl, Stay.refl _⟩
          · intro _ ph h1 h2
            obtain rfl : ph = true := h1 (by kernel_rfl)
            intro ev X hT hb hk hf
            have e0 : ev (.tmp 110) = .bool true := hf.1
            exact OpOk.move rfl e0 ⟨rfl, Stay.refl _⟩
          · intro _ ph h1 h2
            cases ph
            all_goals
              intro ev X hT hb hk hf
              refine ⟨true, hf.1, fun _ => ?_, fun h => (h rfl).elim⟩
              have e0 : ev (.tmp 1) = .pointer (some ⟨w.heap.size, 0, Option.none⟩) := hk.1
              exact OpOk.run (v := .pointer (some ⟨w.heap.size, 3, Option.none⟩)) (W' := X) (by simp [execOp, e0, hb.1, go_sem]) ⟨rfl, Stay.refl _⟩
          · intro _ ph h1 h2
            cases ph
            all_goals
              intro ev X hT hb hk hf
              refine ⟨true, hf.2.1, fun _ => ?_, fun h => (h rfl).elim⟩
              have e0 : ev (.tmp 112) = .pointer (some ⟨w.heap.size, 3, Option.none⟩) := hf.1
              have cW := EIv.cell hT 3 rfl
              exact OpOk.run (v := .slice da dl.length dc) (W' := X) (by simp [execOp, e0, cW, go_sem]) ⟨rfl, Stay.refl _⟩
          · intro _ ph h1 h2
            cases ph
            all_goals
              intro ev X hT hb hk hf
              refine ⟨true, hf.2.1, fun _ => ?_, fun h => (h rfl).elim⟩
              have e0 : ev (.tmp 113) = .slice da dl.length dc := hf.1
              exact OpOk.run (v := .int .i64 ((dl.length : Nat) : Int)) (W' := X) (by simp [execOp, e0, hb.1, go_sem]) ⟨rfl, Stay.refl _⟩
          · intro _ ph h1 h2
            cases ph
            all_goals
              intro ev X hT hb hk hf
              refine ⟨true, hf.2.1, fun _ => ?_, fun h => (h rfl).elim⟩
              have e0 : ev (.tmp 114) = .int .i64 ((dl.length : Nat) : Int) := hf.1
              exact OpOk.run (v := .bool false) (W' := X) (by simp [execOp, e0, hb.1, D0, go_sem]) ⟨rfl, Stay.refl _⟩
          · intro _ ph h1 h2
            cases ph
            all_goals
              intro ev X hT hb hk hf
              have e0 : ev (.tmp 111) = .bool true := hf.1
              have e1 : ev (.tmp 115) = .bool false := hf.2.1
              exact OpOk.run (v := .bool false) (W' := X) (by simp [execOp, e0, e1, hb, hb.1, hb.2.1, hb.2.2, go_sem]) ⟨rfl, Stay.refl _⟩
          · intro _ ph h1 h2
            obtain rfl : ph = true := h1 (by kernel_rfl)
            intro ev X hT hb hk hf
            have e0 := hf.1
            exact OpOk.assign rfl rfl ⟨e0, Stay.refl _⟩
          · intro _ ph h1 h2
            obtain rfl : ph = true := h1 (by kernel_rfl)
            intro ev X hT hb hk hf
            have e0 : ev (.tmp 116) = .bool false := hf.1
            exact OpOk.assign rfl e0 ⟨rfl, Stay.refl _⟩
        case rest =>
          intro X hT
          rintro _ rfl _ rfl _ rfl _ - _ - _ rfl _ rfl _ rfl _ rfl _ rfl _ rfl _ rfl _ rfl _ rfl vo ho _ rfl
          obtain ⟨xa, xc, rfl, _, _, _, _⟩ := own_value ho
          have HO := hide ho
          have HST := hide hT
          clear ho hT
          go_wp2
          refine Rest.done ?_
          go_wp2_with fail
          go_ret2
          exact ⟨_, rfl, (fun h => by cases h), all_below HST.out.1.right HST.out.2⟩
    · have hk2 : decide (sz = 0 ∧ dl.length = 0) = false := decide_eq_false (fun h => ps h.1)
      rw [hk2]
      clear hk2
      have T0 : (((ty.toNat : Nat) : Int) == 0) = false := by rw [beq_eq_false_iff_ne]; intro e; exact pt (UInt8.toNat_inj.1 (by simpa using e))
      have S0 : ((sz : Int) == 0) = false := by rw [beq_eq_false_iff_ne]; omega
      clear hEB
      clear pt
      clear ps
      go_enter Try.func23, Try.ntmps23
      go_wp2_with fail
      refine wp_region_app 4 [isV (.slice (some ⟨w.heap.size + 1, 0, Option.none⟩) 1 1), isV (.pointer (some ⟨w.heap.size, 1, Option.none⟩)), isV (vb ty), (fun v X => IsBytes X v [ty]), (fun _ _ => True), isV (.pointer (some ⟨w.heap.size, 2, Option.none⟩)), isV (u32v sz), isV (.bool false), isV (.bool false), isV (undef), isV (undef), isV (undef), isV (undef), isV (.bool false), (fun _ _ => False), isV (.bool false)]
        [isV (.slice (some ⟨w.heap.size + 1, 0, Option.none⟩) 1 1), isV (.pointer (some ⟨w.heap.size, 1, Option.none⟩)), isV (vb ty), (fun _ _ => True), (fun v X => (ownR v [6, ty] * (EF w ⟨6, ty, sz, dl⟩ (.slice da dl.length dc))).on X), isV (.pointer (some ⟨w.heap.size, 2, Option.none⟩)), isV (u32v sz), isV (.bool false), isV (.bool false), isV (undef), isV (undef), isV (undef), isV (undef), isV (.bool false), (fun v X => (ownR v [6, ty] * (EF w ⟨6, ty, sz, dl⟩ (.slice da dl.length dc))).on X), isV (.bool false)] _ rfl (by kernel_rfl) (by kernel_rfl) rfl (by decide) (EIv (ownR (.slice (some ⟨w.heap.size + 1, 0, Option.none⟩) 1 1) [6]) w ⟨6, ty, sz, dl⟩ (.slice da dl.length dc)) ⟨SP.on.drew H1.out, Str.drew HS1.out⟩ EIv.stay ?keep ?keep2 ?store ?todo ?rest
      case keep => exact ⟨Keep.isV _, Keep.isV _, Keep.isV _, fun _ _ _ h k => IsBytes.below h k, fun _ _ _ h _ => h, Keep.isV _, Keep.isV _, Keep.isV _, Keep.isV _, Keep.isV _, Keep.isV _, Keep.isV _, Keep.isV _, Keep.isV _, fun _ _ _ h _ => h, Keep.isV _, trivial⟩
      case keep2 => exact ⟨Keep.isV _, Keep.isV _, Keep.isV _, fun _ _ _ h _ => h, fun _ _ _ h k => SP.on.below h k, Keep.isV _, Keep.isV _, Keep.isV _, Keep.isV _, Keep.isV _, Keep.isV _, Keep.isV _, Keep.isV _, Keep.isV _, fun _ _ _ h k => SP.on.below h k, Keep.isV _, trivial⟩
      case store =>
        intro ev X hT hb hk hf
        have e0 : ev (.tmp 103) = .slice (some ⟨w.heap.size + 1, 0, Option.none⟩) 1 1 := hf.1
        have e1 : IsBytes X (ev (.tmp 106)) [ty] := hf.2.1
        refine OpOk.append_bytes (F := (EF w ⟨6, ty, sz, dl⟩ (.slice da dl.length dc))) _ _ _ rfl 5 hu infoR _ [6] [ty] e0 hT.1 e1 (by simp) ?_
        intro v' X2 ho hs
        simp only [List.cons_append, List.nil_append] at ho
        refine ⟨⟨ho.right, hT.2.trans hs⟩, ho, ?_⟩
        intro i his hv
        match i, his, hv with
        | 0, _, hv => exact hv
        | 1, _, hv => exact hv
        | 2, _, hv => exact hv
        | 3, _, _ => exact trivial
        | 4, h, _ => exact absurd rfl h
        | 5, _, hv => exact hv
        | 6, _, hv => exact hv
        | 7, _, hv => exact hv
        | 8, _, hv => exact hv
        | 9, _, hv => exact hv
        | 10, _, hv => exact hv
        | 11, _, hv => exact hv
        | 12, _, hv => exact hv
        | 13, _, hv => exact hv
        | 14, _, hv => exact hv.elim
        | 15, _, hv => exact hv
        | n + 16, _, _ => exact trivial
      case todo =>
        refine ⟨?_, ?_, ?_, ?_, ?_, ?_, ?_, ?_, ?_, ?_, ?_, ?_, ?_, ?_, ?_, ?_, trivial⟩
        · intro _ ph h1 h2
          obtain rfl : ph = false := h2 (by kernel_rfl)
          intro ev X hT hb hk hf
          have e0 : ev (.tmp 4) = .slice (some ⟨w.heap.size + 1, 0, Option.none⟩) 1 1 := hk.1
          exact OpOk.move rfl e0 ⟨rfl, Stay.refl _⟩
        · intro _ ph h1 h2
          cases ph
          all_goals
            intro ev X hT hb hk hf
            have e0 : ev (.tmp 1) = .pointer (some ⟨w.heap.size, 0, Option.none⟩) := hk.1
            exact OpOk.run (v := .pointer (some ⟨w.heap.size, 1, Option.none⟩)) (W' := X) (by simp [execOp, e0, hb.1, go_sem]) ⟨rfl, Stay.refl _⟩
        · intro _ ph h1 h2
          cases ph
          all_goals
            intro ev X hT hb hk hf
            have e0 : ev (.tmp 104) = .pointer (some ⟨w.heap.size, 1, Option.none⟩) := hf.1
            have cW := EIv.cell hT 1 rfl
            exact OpOk.run (v := vb ty) (W' := X) (by simp [execOp, e0, cW, go_sem]) ⟨rfl, Stay.refl _⟩
        · intro _ ph h1 h2
          obtain rfl : ph = false := h2 (by kernel_rfl)
          intro ev X hT hb hk hf
          have e0 : ev (.tmp 105) = vb ty := hf.1
          exact OpOk.run (v := .slice (some ⟨X.heap.size, 0, Option.none⟩) 1 1) (W' := X.alloc (.cells #[vb ty] 5)) (by simp [execOp, e0, go_sem]) ⟨isb1 _ _ _ (rfl) _, (Below.refl _ _).alloc (Nat.le_refl _) _⟩
        · exact fun h => absurd rfl h
        · intro _ ph h1 h2
          cases ph
          all_goals
            intro ev X hT hb hk hf
            have e0 : ev (.tmp 1) = .pointer (some ⟨w.heap.size, 0, Option.none⟩) := hk.1
            exact OpOk.run (v := .pointer (some ⟨w.heap.size, 2, Option.none⟩)) (W' := X) (by simp [execOp, e0, hb.1, go_sem]) ⟨rfl, Stay.refl _⟩
        · intro _ ph h1 h2
          cases ph
          all_goals
            intro ev X hT hb hk hf
            have e0 : ev (.tmp 108) = .pointer (some ⟨w.heap.size, 2, Option.none⟩) := hf.1
            have cW := EIv.cell hT 2 rfl
            exact OpOk.run (v := u32v sz) (W' := X) (by simp [execOp, e0, cW, go_sem]) ⟨rfl, Stay.refl _⟩
        · intro _ ph h1 h2
          cases ph
          all_goals
            intro ev X hT hb hk hf
            have e0 : ev (.tmp 109) = u32v sz := hf.1
            exact OpOk.run (v := .bool false) (W' := X) (by simp [execOp, e0, hb.1, S0, go_sem]) ⟨rfl, Stay.refl _⟩
        · intro _ ph h1 h2
          obtain rfl : ph = true := h1 (by kernel_rfl)
          intro ev X hT hb hk hf
          have e0 : ev (.tmp 110) = .bool false := hf.1
          exact OpOk.move rfl e0 ⟨rfl, Stay.refl _⟩
        · intro _ ph h1 h2
          cases ph
          all_goals
            intro ev X hT hb hk hf
            exact ⟨false, hf.1, fun h => (nomatch h), fun _ => rfl⟩
        · intro _ ph h1 h2
          cases ph
          all_goals
            intro ev X hT hb hk hf
            exact ⟨false, hf.2.1, fun h => (nomatch h), fun _ => rfl⟩
        · intro _ ph h1 h2
          cases ph
          all_goals
            intro ev X hT hb hk hf
            exact ⟨false, hf.2.1, fun h => (nomatch h), fun _ => rfl⟩
        · intro _ ph h1 h2
          cases ph
          all_goals
            intro ev X hT hb hk hf
            exact ⟨false, hf.2.1, fun h => (nomatch h), fun _ => rfl⟩
        · intro _ ph h1 h2
          cases ph
          all_goals
            intro ev X hT hb hk hf
            have e0 : ev (.tmp 111) = .bool false := hf.1
            have e1 : ev (.tmp 115) = undef := hf.2.1
            exact OpOk.run (v := .bool false) (W' := X) (by simp [execOp, e0, e1, hb, hb.1, hb.2.1, hb.2.2, go_sem]) ⟨rfl, Stay.refl _⟩
        · intro _ ph h1 h2
          obtain rfl : ph = true := h1 (by kernel_rfl)
          intro ev X hT hb hk hf
          have e0 := hf.1
          exact OpOk.assign rfl rfl ⟨e0, Stay.refl _⟩
        · intro _ ph h1 h2
          obtain rfl : ph = true := h1 (by kernel_rfl)
          intro ev X hT hb hk hf
          have e0 : ev (.tmp 116) = .bool false := hf.1
          exact OpOk.assign rfl e0 ⟨rfl, Stay.refl _⟩
      case rest =>
        intro X hT
        rintro _ rfl _ rfl _ rfl _ - _ - _ rfl _ rfl _ rfl _ rfl _ rfl _ rfl _ rfl _ rfl _ rfl vo ho _ rfl
        obtain ⟨xa, xc, rfl, _, _, _, _⟩ := own_value ho
        have HO := hide ho
        have HST := hide hT
        clear ho hT
        go_wp2
        refine Rest.done ?_
        go_wp2_with fail
        go_ret2
        exact ⟨_, rfl, (fun h => by cases h), all_below HST.out.1.right HST.out.2⟩

set_option maxRecDepth 100000 in
set_option maxHeartbeats 16000000 in
theorem renc_9 (ty : UInt8) (sz : Nat) (dl : List UInt8) (dv : Value) (w : World) (hsz : sz < 4294967296) (h : IsBytes w dv dl) (hlen : dl.length ≤ 1000000) (hEB : dl.length = 0 → encBytes ⟨9, ty, sz, dl⟩ = [9, ty]) :
    Calls Try.prog 23 #[.agg (reqCells ⟨9, ty, sz, dl⟩ dv)] w (REncEnd (decide (sz = 0 ∧ dl.length = 0)) (encBytes ⟨9, ty, sz, dl⟩) w) := by
  have hu := Try.underlying23
  have Hd := hide h
  obtain ⟨da, dc, rfl, hdc, hdm, _, _⟩ := h
  unfold maxLen at hdm
  have hw0 := (on_all w).alloc (.cells (reqCells ⟨9, ty, sz, dl⟩ (.slice da dl.length dc)) 49)
  have hs0 := (Str.refl w).alloc (.cells (reqCells ⟨9, ty, sz, dl⟩ (.slice da dl.length dc)) 49)
  have hw1 := own_new 5 1 1 (vbs [9]) hw0 rfl (by decide)
  have hv1 : (vbs [9]).toArray = #[vb 9] := rfl
  rw [hv1] at hw1
  simp only [World.size_alloc] at hw1
  have hs1 := hs0.alloc (.cells #[vb 9] 5)
  have g0 := on_blk_mul hw0
  have g1 := on_blk_mul hw1.right
  have q0 : _ = some (vb 9) := cell_of_row _ w.heap.size 0 _ _ _ g0
  have q1 : _ = some (vb ty) := cell_of_row _ w.heap.size 1 _ _ _ g1
  have q2 : _ = some (u32v sz) := cell_of_row _ w.heap.size 2 _ _ _ g1
  have q3 : _ = some (Value.slice da dl.length dc) := cell_of_row _ w.heap.size 3 _ _ _ g1
  have q4 : _ = some (vb 9) := cell_of_row _ w.heap.size 0 _ _ _ g1
  have H1 := hide hw1
  have HS1 := hide hs1
  clear hw0 hs0 hw1 hv1 hs1 g0 g1
  by_cases pt : ty = 0
  · by_cases ps : sz = 0
    · by_cases pd : dl.length = 0
      · have hk2 : decide (sz = 0 ∧ dl.length = 0) = true := decide_eq_true ⟨ps, pd⟩
        rw [hk2]
        clear hk2
        have T0 : (((ty.toNat : Nat) : Int) == 0) = true := by rw [pt]; rfl
        have S0 : ((sz : Int) == 0) = true := by rw [ps]; rfl
        have D0 : ((dl.length : Int) == 0) = true := by rw [pd]; rfl
        have DG : decide (0 < dl.length) = false := decide_eq_false (by omega)
        have EB := hide (hEB pd)
        clear hEB
        clear pt
        clear ps
        clear pd
        go_enter Try.func23, Try.ntmps23
        go_wp2_with fail
        refine wp_region_app 4 [isV (.slice (some ⟨w.heap.size + 1, 0, Option.none⟩) 1 1), isV (.pointer (some ⟨w.heap.size, 1, Option.none⟩)), isV (vb ty), (fun v X => IsBytes X v [ty]), (fun _ _ => True), isV (.pointer (some ⟨w.heap.size, 2, Option.none⟩)), isV (u32v sz), isV (.bool true), isV (.bool true), isV (.pointer (some ⟨w.heap.size, 3, Option.none⟩)), isV (.slice da dl.length dc), isV (.int .i64 ((dl.length : Nat) : Int)), isV (.bool true), isV (.bool true), (fun _ _ => False), isV (.bool true)]
          [isV (.slice (some ⟨w.heap.size + 1, 0, Option.none⟩) 1 1), isV (.pointer (some ⟨w.heap.size, 1, Option.none⟩)), isV (vb ty), (fun _ _ => True), (fun v X => (ownR v [9, ty] * (EF w ⟨9, ty, sz, dl⟩ (.slice da dl.length dc))).on X), isV (.pointer (some ⟨w.heap.size, 2, Option.none⟩)), isV (u32v sz), isV (.bool true), isV (.bool true), isV (.pointer (some ⟨w.heap.size, 3, Option.none⟩)), isV (.slice da dl.length dc), isV (.int .i64 ((dl.length : Nat) : Int)), isV (.bool true), isV (.bool true), (fun v X => (ownR v [9, ty] * (EF w ⟨9, ty, sz, dl⟩ (.slice da dl.length dc))).on X), isV (.bool true)] _ rfl (by kernel_rfl) (by kernel_rfl) rfl (by decide) (EIv (ownR (.slice (some ⟨w.heap.size + 1, 0, Option.none⟩) 1 1) [9]) w ⟨9, ty, sz, dl⟩ (.slice da dl.length dc)) ⟨SP.on.drew H1.out, Str.drew HS1.out⟩ EIv.stay ?keep ?keep2 ?store ?todo ?rest
        case keep => exact ⟨Keep.isV _, Keep.isV _, Keep.isV _, fun _ _ _ h k => IsBytes.below h k, fun _ _ _ h _ => h, Keep.isV _, Keep.isV _, Keep.isV _, Keep.isV _, Keep.isV _, Keep.isV _, Keep.isV _, Keep.isV _, Keep.isV _, fun _ _ _ h _ => h, Keep.isV _, trivial⟩
        case keep2 => exact ⟨Keep.isV _, Keep.isV _, Keep.isV _, fun _ _ _ h _ => h, fun _ _ _ h k => SP.on.below h k, Keep.isV _, Keep.isV _, Keep.isV _, Keep.isV _, Keep.isV _, Keep.isV _, Keep.isV _, Keep.isV _, Keep.isV _, fun _ _ _ h k => SP.on.below h k, Keep.isV _, trivial⟩
        case store =>
          intro ev X hT hb hk hf
          have e0 : ev (.tmp 103) = .slice (some ⟨w.heap.size + 1, 0, Option.none⟩) 1 1 := hf.1
          have e1 : IsBytes X (ev (.tmp 106)) [ty] := hf.2.1
          refine OpOk.append_bytes (F := (EF w ⟨9, ty, sz, dl⟩ (.slice da dl.length dc))) _ _ _ rfl 5 hu infoR _ [9] [ty] e0 hT.1 e1 (by simp) ?_
          intro v' X2 ho hs
          simp only [List.cons_append, List.nil_append] at ho
          refine ⟨⟨ho.right, hT.2.trans hs⟩, ho, ?_⟩
          intro i his hv
          match i, his, hv with
          | 0, _, hv => exact hv
          | 1, _, hv => exact hv
          | 2, _, hv => exact hv
          | 3, _, _ => exact trivial
          | 4, h, _ => exact absurd rfl h
          | 5, _, hv => exact hv
          | 6, _, hv => exact hv
          | 7, _, hv => exact hv
          | 8, _, hv => exact hv
          | 9, _, hv => exact hv
          | 10, _, hv => exact hv
          | 11, _, hv => exact hv
          | 12, _, hv => exact hv
          | 13, _, hv => exact hv
          | 14, _, hv => exact hv.elim
          | 15, _, hv => exact hv
          | n + 16, _, _ => exact trivial
        case todo =>
          refine ⟨?_, ?_, ?_, ?_, ?_, ?_, ?_, ?_, ?_, ?_, ?_, ?_, ?_, ?_, ?_, ?_, trivial⟩
          · intro _ ph h1 h2
            obtain rfl : ph = false := h2 (by kernel_rfl)
            intro ev X hT hb hk hf
            have e0 : ev (.tmp 4) = .slice (some ⟨w.heap.size + 1, 0, Option.none⟩) 1 1 := hk.1
            exact OpOk.move rfl e0 ⟨rfl, Stay.refl _⟩
          · intro _ ph h1 h2
            cases ph
            all_goals
              intro ev X hT hb hk hf
              have e0 : ev (.tmp 1) = .pointer (some ⟨w.heap.size, 0, Option.none⟩) := hk.1
              exact OpOk.run (v := .pointer (some ⟨w.heap.size, 1, Option.none⟩)) (W' := X) (by simp [execOp, e0, hb.1, go_sem]) ⟨rfl, Stay.refl _⟩
          · intro _ ph h1 h2
            cases ph
            all_goals
              intro ev X hT hb hk hf
              have e0 : ev (.tmp 104) = .pointer (some ⟨w.heap.size, 1, Option.none⟩) := hf.1
              have cW := EIv.cell hT 1 rfl
              exact OpOk.run (v := vb ty) (W' := X) (by simp [execOp, e0, cW, go_sem]) ⟨rfl, Stay.refl _⟩
          · intro _ ph h1 h2
            obtain rfl : ph = false := h2 (by kernel_rfl)
            intro ev X hT hb hk hf
            have e0 : ev (.tmp 105) = vb ty := hf.1
            exact OpOk.run (v := .slice (some ⟨X.heap.size, 0, Option.none⟩) 1 1) (W' := X.alloc (.cells #[vb ty] 5)) (by simp [execOp, e0, go_sem]) ⟨isb1 _ _ _ (rfl) _, (Below.refl _ _).alloc (Nat.le_refl _) _⟩
          · exact fun h => absurd rfl h
          · intro _ ph h1 h2
            cases ph
            all_goals
              intro ev X hT hb hk hf
              have e0 : ev (.tmp 1) = .pointer (some ⟨w.heap.size, 0, Option.none⟩) := hk.1
              exact OpOk.run (v := .pointer (some ⟨w.heap.size, 2, Option.none⟩)) (W' := X) (by simp [execOp, e0, hb.1, go_sem]) ⟨rfl, Stay.refl _⟩
          · intro _ ph h1 h2
            cases ph
            all_goals
              intro ev X hT hb hk hf
              have e0 : ev (.tmp 108) = .pointer (some ⟨w.heap.size, 2, Option.none⟩) := hf.1
              have cW := EIv.cell hT 2 rfl
              exact OpOk.run (v := u32v sz) (W' := X) (by simp [execOp, e0, cW, go_sem]) ⟨rfl, Stay.refl _⟩
          · intro _ ph h1 h2
            cases ph
            all_goals
              intro ev X hT hb hk hf
              have e0 : ev (.tmp 109) = u32v sz := hf.1
              exact OpOk.run (v := .bool true) (W' := X) (by simp [execOp, e0, hb.1, S0, go_sem]) ⟨rfl, Stay.refl _⟩
          · intro _ ph h1 h2
            obtain rfl : ph = true := h1 (by kernel_rfl)
            intro ev X hT hb hk hf
            have e0 : ev (.tmp 110) = .bool true := hf.1
            exact OpOk.move rfl e0 ⟨rfl, Stay.refl _⟩
          · intro _ ph h1 h2
            cases ph
            all_goals
              intro ev X hT hb hk hf
              refine ⟨true, hf.1, fun _ => ?_, fun h => (h rfl).elim⟩
              have e0 : ev (.tmp 1) = .pointer (some ⟨w.heap.size, 0, Option.none⟩) := hk.1
              exact OpOk.run (v := .pointer (some ⟨w.heap.size, 3, Option.none⟩)) (W' := X) (by simp [execOp, e0, hb.1, go_sem]) ⟨rfl, Stay.refl _⟩
          · intro _ ph h1 h2
            cases ph
            all_goals
              intro ev X hT hb hk hf
              refine ⟨true, hf.2.1, fun _ => ?_, fun h => (h rfl).elim⟩
              have e0 : ev (.tmp 112) = .pointer (some ⟨w.heap.size, 3, Option.none⟩) := hf.1
              have cW := EIv.cell hT 3 rfl
              exact OpOk.run (v := .slice da dl.length dc) (W' := X) (by simp [execOp, e0, cW, go_sem]) ⟨rfl, Stay.refl _⟩
          · intro _ ph h1 h2
            cases ph
            all_goals
              intro ev X hT hb hk hf
              refine ⟨true, hf.2.1, fun _ => ?_, fun h => (h rfl).elim⟩
              have e0 : ev (.tmp 113) = .slice da dl.length dc := hf.1
              exact OpOk.run (v := .int .i64 ((dl.length : Nat) : Int)) (W' := X) (by simp [execOp, e0, hb.1, go_sem]) ⟨rfl, Stay.refl _⟩
          · intro _ ph h1 h2
            cases ph
            all_goals
              intro ev X hT hb hk hf
              refine ⟨true, hf.2.1, fun _ => ?_, fun h => (h rfl).elim⟩
              have e0 : ev (.tmp 114) = .int .i64 ((dl.length : Nat) : Int) := hf.1
              exact OpOk.run (v := .bool true) (W' := X) (by simp [execOp, e0, hb.1, D0, go_sem]) ⟨rfl, Stay.refl _⟩
          · intro _ ph h1 h2
            cases ph
            all_goals
              intro ev X hT hb hk hf
              have e0 : ev (.tmp 111) = .bool true := hf.1
              have e1 : ev (.tmp 115) = .bool true := hf.2.1
              exact OpOk.run (v := .bool true) (W' := X) (by simp [execOp, e0, e1, hb, hb.1, hb.2.1, hb.2.2, go_sem]) ⟨rfl, Stay.refl _⟩
          · intro _ ph h1 h2
            obtain rfl : ph = true := h1 (by kernel_rfl)
            intro ev X hT hb hk hf
            have e0 := hf.1
            exact OpOk.assign rfl rfl ⟨e0, Stay.refl _⟩
          · intro _ ph h1 h2
            obtain rfl : ph = true := h1 (by kernel_rfl)
            intro ev X hT hb hk hf
            have e0 : ev (.tmp 116) = .bool true := hf.1
            exact OpOk.assign rfl e0 ⟨rfl, Stay.refl _⟩
        case rest =>
          intro X hT
          rintro _ rfl _ rfl _ rfl _ - _ - _ rfl _ rfl _ rfl _ rfl _ rfl _ rfl _ rfl _ rfl _ rfl vo ho _ rfl
          obtain ⟨xa, xc, rfl, _, _, _, _⟩ := own_value ho
          have HO := hide ho
          have HST := hide hT
          clear ho hT
          go_wp2
          refine Rest.done ?_
          go_wp2_with fail
          go_ret2
          exact ⟨_, rfl, fun _ => by rw [EB.out]; exact own_bytes HO.out, all_below HST.out.1.right HST.out.2⟩
      · have hk2 : decide (sz = 0 ∧ dl.length = 0) = false := decide_eq_false (fun h => pd h.2)
        rw [hk2]
        clear hk2
        have T0 : (((ty.toNat : Nat) : Int) == 0) = true := by rw [pt]; rfl
        have S0 : ((sz : Int) == 0) = true := by rw [ps]; rfl
        have D0 : ((dl.length : Int) == 0) = false := by rw [beq_eq_false_iff_ne]; omega
        have DG : decide (0 < dl.length) = true := decide_eq_true (by omega)
        clear hEB
        clear pt
        clear ps
        clear pd
        go_enter Try.func23, Try.ntmps23
        go_wp2_with fail
        refine wp_region_app 4 [isV (.slice (some ⟨w.heap.size + 1, 0, Option.none⟩) 1 1), isV (.pointer (some ⟨w.heap.size, 1, Option.none⟩)), isV (vb ty), (fun v X => IsBytes X v [ty]), (fun _ _ => True), isV (.pointer (some ⟨w.heap.size, 2, Option.none⟩)), isV (u32v sz), isV (.bool true), isV (.bool true), isV (.pointer (some ⟨w.heap.size, 3, Option.none⟩)), isV (.slice da dl.length dc), isV (.int .i64 ((dl.length : Nat) : Int)), isV (.bool false), isV (.bool false), (fun _ _ => False), isV (.bool false)]
          [isV (.slice (some ⟨w.heap.size + 1, 0, Option.none⟩) 1 1), isV (.pointer (some ⟨w.heap.size, 1, Option.none⟩)), isV (vb ty), (fun _ _ => True), (fun v X => (ownR v [9, ty] * (EF w ⟨9, ty, sz, dl⟩ (.slice da dl.length dc))).on X), isV (.pointer (some ⟨w.heap.size, 2, Option.none⟩)), isV (u32v sz), isV (.bool true), isV (.bool true), isV (.pointer (some ⟨w.heap.size, 3, Option.none⟩)), isV (.slice da dl.length dc), isV (.int .i64 ((dl.length : Nat) : Int)), isV (.bool false), isV (.bool false), (fun v X => (ownR v [9, ty] * (EF w ⟨9, ty, sz, dl⟩ (.slice da dl.length dc))).on X), isV (.bool false)] _ rfl (by kernel_rfl) (by kernel_rfl) rfl (by decide) (EIv (ownR (.slice (some ⟨w.heap.size + 1, 0, Option.none⟩) 1 1) [9]) w ⟨9, ty, sz, dl⟩ (.slice da dl.length dc)) ⟨SP.on.drew H1.out, Str.drew HS1.out⟩ EIv.stay ?keep ?keep2 ?store ?todo ?rest
        case keep => exact ⟨Keep.isV _, Keep.isV _, Keep.isV _, fun _ _ _ h k => IsBytes.below h k, fun _ _ _ h _ => h, Keep.isV _, Keep.isV _, Keep.isV _, Keep.isV _, Keep.isV _, Keep.isV _, Keep.isV _, Keep.isV _, Keep.isV _, fun _ _ _ h _ => h, Keep.isV _, trivial⟩
        case keep2 => exact ⟨Keep.isV _, Keep.isV _, Keep.isV _, fun _ _ _ h _ => h, fun _ _ _ h k => SP.on.below h k, Keep.isV _, Keep.isV _, Keep.isV _, Keep.isV _, Keep.isV _, Keep.isV _, Keep.isV _, Keep.isV _, Keep.isV _, fun _ _ _ h k => SP.on.below h k, Keep.isV _, trivial⟩
        case store =>
          intro ev X hT hb hk hf
          have e0 : ev (.tmp 103) = .slice (some ⟨w.heap.size + 1, 0, Option.none⟩) 1 1 := hf.1
          have e1 : IsBytes X (ev (.tmp 106)) [ty] := hf.2.1
          refine OpOk.append_bytes (F := (EF w ⟨9, ty, sz, dl⟩ (.slice da dl.length dc))) _ _ _ rfl 5 hu infoR _ [9] [ty] e0 hT.1 e1 (by simp) ?_
          intro v' X2 ho hs
          simp only [List.cons_append, List.nil_append] at ho
          refine ⟨⟨ho.right, hT.2.trans hs⟩, ho, ?_⟩
          intro i his hv
          match i, his, hv with
          | 0, _, hv => exact hv
          | 1, _, hv => exact hv
          | 2, _, hv => exact hv
          | 3, _, _ => exact trivial
          | 4, h, _ => exact absurd rfl h
          | 5, _, hv => exact hv
          | 6, _, hv => exact hv
          | 7, _, hv => exact hv
          | 8, _, hv => exact hv
          | 9, _, hv => exact hv
          | 10, _, hv => exact hv
          | 11, _, hv => exact hv
          | 12, _, hv => exact hv
          | 13, _, hv => exact hv
          | 14, _, hv => exact hv.elim
          | 15, _, hv => exact hv
          | n + 16, _, _ => exact trivial
        case todo =>
          refine ⟨?_, ?_, ?_, ?_, ?_, ?_, ?_, ?_, ?_, ?_, ?_, ?_, ?_, ?_, ?_, ?_, trivial⟩
          · intro _ ph h1 h2
            obtain rfl : ph = false := h2 (by kernel_rfl)
            intro ev X hT hb hk hf
            have e0 : ev (.tmp 4) = .slice (some ⟨w.heap.size + 1, 0, Option.none⟩) 1 1 := hk.1
            exact OpOk.move rfl e0 ⟨rfl, Stay.refl _⟩
          · intro _ ph h1 h2
            cases ph
            all_goals
              intro ev X hT hb hk hf
              have e0 : ev (.tmp 1) = .pointer (some ⟨w.heap.size, 0, Option.none⟩) := hk.1
              exact OpOk.run (v := .pointer (some ⟨w.heap.size, 1, Option.none⟩)) (W' := X) (by simp [execOp, e0, hb.1, go_sem]) ⟨rfl, Stay.refl _⟩
          · intro _ ph h1 h2
            cases ph
            all_goals
              intro ev X hT hb hk hf
              have e0 : ev (.tmp 104) = .pointer (some ⟨w.heap.size, 1, Option.none⟩) := hf.1
              have cW := EIv.cell hT 1 rfl
              exact OpOk.run (v := vb ty) (W' := X) (by simp [execOp, e0, cW, go_sem]) ⟨rfl, Stay.refl _⟩
          · intro _ ph h1 h2
            obtain rfl : ph = false := h2 (by kernel_rfl)
            intro ev X hT hb hk hf
            have e0 : ev (.tmp 105) = vb ty := hf.1
            exact OpOk.run (v := .slice (some ⟨X.heap.size, 0, Option.none⟩) 1 1) (W' := X.alloc (.cells #[vb ty] 5)) (by simp [execOp, e0, go_sem]) ⟨isb1 _ _ _ (rfl) _, (Below.refl _ _).alloc (Nat.le_refl _) _⟩
          · exact fun h => absurd rfl h
          · intro _ ph h1 h2
            cases ph
            all_goals
              intro ev X hT hb hk hf
              have e0 : ev (.tmp 1) = .pointer (some ⟨w.heap.size, 0, Option.none⟩) := hk.1
              exact OpOk.run (v := .pointer (some ⟨w.heap.size, 2, Option.none⟩)) (W' := X) (by simp [execOp, e0, hb.1, go_sem]) ⟨rfl, Stay.refl _⟩
          · intro _ ph h1 h2
            cases ph
            all_goals
              intro ev X hT hb hk hf
              have e0 : ev (.tmp 108) = .pointer (some ⟨w.heap.size, 2, Option.none⟩) := hf.1
              have cW := EIv.cell hT 2 rfl
              exact OpOk.run (v := u32v sz) (W' := X) (by simp [execOp, e0, cW, go_sem]) ⟨rfl, Stay.refl _⟩
          · intro _ ph h1 h2
            cases ph
            all_goals
              intro ev X hT hb hk hf
              have e0 : ev (.tmp 109) = u32v sz := hf.1
              exact OpOk.run (v := .bool true) (W' := X) (by simp [execOp, e0, hb.1, S0, go_sem]) ⟨rfl, Stay.refl _⟩
          · intro _ ph h1 h2
            obtain rfl : ph = true := h1 (by kernel_rfl)
            intro ev X hT hb hk hf
            have e0 : ev (.tmp 110) = .bool true := hf.1
            exact OpOk.move rfl e0 ⟨rfl, Stay.refl _⟩
          · intro _ ph h1 h2
            cases ph
            all_goals
              intro ev X hT hb hk hf
              refine ⟨true, hf.1, fun _ => ?_, fun h => (h rfl).elim⟩
              have e0 : ev (.tmp 1) = .pointer (some ⟨w.heap.size, 0, Option.none⟩) := hk.1
              exact OpOk.run (v := .pointer (some ⟨w.heap.size, 3, Option.none⟩)) (W' := X) (by simp [execOp, e0, hb.1, go_sem]) ⟨rfl, Stay.refl _⟩
          · intro _ ph h1 h2
            cases ph
            all_goals
              intro ev X hT hb hk hf
              refine ⟨true, hf.2.1, fun _ => ?_, fun h => (h rfl).elim⟩
              have e0 : ev (.tmp 112) = .pointer (some ⟨w.heap.size, 3, Option.none⟩) := hf.1
              have cW := EIv.cell hT 3 rfl
              exact OpOk.run (v := .slice da dl.length dc) (W' := X) (by simp [execOp, e0, cW, go_sem]) ⟨rfl, Stay.refl _⟩
          · intro _ ph h1 h2
            cases ph
            all_goals
              intro ev X hT hb hk hf
              refine ⟨true, hf.2.1, fun _ => ?_, fun h => (h rfl).elim⟩
              have e0 : ev (.tmp 113) = .slice da dl.length dc := hf.1
              exact OpOk.run (v := .int .i64 ((dl.length : Nat) : Int)) (W' := X) (by simp [execOp, e0, hb.1, go_sem]) ⟨rfl, Stay.refl _⟩
          · intro _ ph h1 h2
            cases ph
            all_goals
              intro ev X hT hb hk hf
              refine ⟨true, hf.2.1, fun _ => ?_, fun h => (h rfl).elim⟩
              have e0 : ev (.tmp 114) = .int .i64 ((dl.length : Nat) : Int) := hf.1
              exact OpOk.run (v := .bool false) (W' := X) (by simp [execOp, e0, hb.1, D0, go_sem]) ⟨rfl, Stay.refl _⟩
          · intro _ ph h1 h2
            cases ph
            all_goals
              intro ev X hT hb hk hf
              have e0 : ev (.tmp 111) = .bool true := hf.1
              have e1 : ev (.tmp 115) = .bool false := hf.2.1
              exact OpOk.run (v := .bool false) (W' := X) (by simp [execOp, e0, e1, hb, hb.1, hb.2.1, hb.2.2, go_sem]) ⟨rfl, Stay.refl _⟩
          · intro _ ph h1 h2
            obtain rfl : ph = true := h1 (by kernel_rfl)
            intro ev X hT hb hk hf
            have e0 := hf.1
            exact OpOk.assign rfl rfl ⟨e0, Stay.refl _⟩
          · intro _ ph h1 h2
            obtain rfl : ph = true := h1 (by kernel_rfl)
            intro ev X hT hb hk hf
            have e0 : ev (.tmp 116) = .bool false := hf.1
            exact OpOk.assign rfl e0 ⟨rfl, Stay.refl _⟩
        case rest =>
          intro X hT
          rintro _ rfl _ rfl _ rfl _ - _ - _ rfl _ rfl _ rfl _ rfl _ rfl _ rfl _ rfl _ rfl _ rfl vo ho _ rfl
          obtain ⟨xa, xc, rfl, _, _, _, _⟩ := own_value ho
          have HO := hide ho
          have HST := hide hT
          clear ho hT
          go_wp2
          refine Rest.done ?_
          go_wp2_with fail
          go_ret2
          exact ⟨_, rfl, (fun h => by cases h), all_below HST.out.1.right HST.out.2⟩
    · have hk2 : decide (sz = 0 ∧ dl.length = 0) = false := decide_eq_false (fun h => ps h.1)
      rw [hk2]
      clear hk2
      have T0 : (((ty.toNat : Nat) : Int) == 0) = true := by rw [pt]; rfl
      have S0 : ((sz : Int) == 0) = false := by rw [beq_eq_false_iff_ne]; omega
      clear hEB
      clear pt
      clear ps
      go_enter Try.func23, Try.ntmps23
      go_wp2_with fail
      refine wp_region_app 4 [isV (.slice (some ⟨w.heap.size + 1, 0, Option.none⟩) 1 1), isV (.pointer (some ⟨w.heap.size, 1, Option.none⟩)), isV (vb ty), (fun v X => IsBytes X v [ty]), (fun _ _ => True), isV (.pointer (some ⟨w.heap.size, 2, Option.none⟩)), isV (u32v sz), isV (.bool false), isV (.bool false), isV (undef), isV (undef), isV (undef), isV (undef), isV (.bool false), (fun _ _ => False), isV (.bool false)]
        [isV (.slice (some ⟨w.heap.size + 1, 0, Option.none⟩) 1 1), isV (.pointer (some ⟨w.heap.size, 1, Option.none⟩)), isV (vb ty), (fun _ _ => True), (fun v X => (ownR v [9, ty] * (EF w ⟨9, ty, sz, dl⟩ (.slice da dl.length dc))).on X), isV (.pointer (some ⟨w.heap.size, 2, Option.none⟩)), isV (u32v sz), isV (.bool false), isV (.bool false), isV (undef), isV (undef), isV (undef), isV (undef), isV (.bool false), (fun v X => (ownR v [9, ty] * (EF w ⟨9, ty, sz, dl⟩ (.slice da dl.length dc))).on X), isV (.bool false)] _ rfl (by kernel_rfl) (by kernel_rfl) rfl (by decide) (EIv (ownR (.slice (some ⟨w.heap.size + 1, 0, Option.none⟩) 1 1) [9]) w ⟨9, ty, sz, dl⟩ (.slice da dl.length dc)) ⟨SP.on.drew H1.out, Str.drew HS1.out⟩ EIv.stay ?keep ?keep2 ?store ?todo ?rest
      case keep => exact ⟨Keep.isV _, Keep.isV _, Keep.isV _, fun _ _ _ h k => IsBytes.below h k, fun _ _ _ h _ => h, Keep.isV _, Keep.isV _, Keep.isV _, Keep.isV _, Keep.isV _, Keep.isV _, Keep.isV _, Keep.isV _, Keep.isV _, fun _ _ _ h _ => h, Keep.isV _, trivial⟩
      case keep2 => exact ⟨Keep.isV _, Keep.isV _, Keep.isV _, fun _ _ _ h _ => h, fun _ _ _ h k => SP.on.below h k, Keep.isV _, Keep.isV _, Keep.isV _, Keep.isV _, Keep.isV _, Keep.isV _, Keep.isV _, Keep.isV _, Keep.isV _, fun _ _ _ h k => SP.on.below h k, Keep.isV _, trivial⟩
      case store =>
        intro ev X hT hb hk hf
        have e0 : ev (.tmp 103) = .slice (some ⟨w.heap.size + 1, 0, Option.none⟩) 1 1 := hf.1
        have e1 : IsBytes X (ev (.tmp 106)) [ty] := hf.2.1
        refine OpOk.append_bytes (F := (EF w ⟨9, ty, sz, dl⟩ (.slice da dl.length dc))) _ _ _ rfl 5 hu infoR _ [9] [ty] e0 hT.1 e1 (by simp) ?_
        intro v' X2 ho hs
        simp only [List.cons_append, List.nil_append] at ho
        refine ⟨⟨ho.right, hT.2.trans hs⟩, ho, ?_⟩
        intro i his hv
        match i, his, hv with
        | 0, _, hv => exact hv
        | 1, _, hv => exact hv
        | 2, _, hv => exact hv
        | 3, _, _ => exact trivial
        | 4, h, _ => exact absurd rfl h
        | 5, _, hv => exact hv
        | 6, _, hv => exact hv
        | 7, _, hv => exact hv
        | 8, _, hv => exact hv
        | 9, _, hv => exact hv
        | 10, _, hv => exact hv
        | 11, _, hv => exact hv
        | 12, _, hv => exact hv
        | 13, _, hv => exact hv
        | 14, _, hv => exact hv.elim
        | 15, _, hv => exact hv
        | n + 16, _, _ => exact trivial
      case todo =>
        refine ⟨?_, ?_, ?_, ?_, ?_, ?_, ?_, ?_, ?_, ?_, ?_, ?_, ?_, ?_, ?_, ?_, trivial⟩
        · intro _ ph h1 h2
          obtain rfl : ph = false := h2 (by kernel_rfl)
          intro ev X hT hb hk hf
          have e0 : ev (.tmp 4) = .slice (some ⟨w.heap.size + 1, 0, Option.none⟩) 1 1 := hk.1
          exact OpOk.move rfl e0 ⟨rfl, Stay.refl _⟩
        · intro _ ph h1 h2
          cases ph
          all_goals
            intro ev X hT hb hk hf
            have e0 : ev (.tmp 1) = .pointer (some ⟨w.heap.size, 0, Option.none⟩) := hk.1
            exact OpOk.run (v := .pointer (some ⟨w.heap.size, 1, Option.none⟩)) (W' := X) (by simp [execOp, e0, hb.1, go_sem]) ⟨rfl, Stay.refl _⟩
        · intro _ ph h1 h2
          cases ph
          all_goals
            intro ev X hT hb hk hf
            have e0 : ev (.tmp 104) = .pointer (some ⟨w.heap.size, 1, Option.none⟩) := hf.1
            have cW := EIv.cell hT 1 rfl
            exact OpOk.run (v := vb ty) (W' := X) (by simp [execOp, e0, cW, go_sem]) ⟨rfl, Stay.refl _⟩
        · intro _ ph h1 h2
          obtain rfl : ph = false := h2 (by kernel_rfl)
          intro ev X hT hb hk hf
          have e0 : ev (.tmp 105) = vb ty := hf.1
          exact OpOk.run (v := .slice (some ⟨X.heap.size, 0, Option.none⟩) 1 1) (W' := X.alloc (.cells #[vb ty] 5)) (by simp [execOp, e0, go_sem]) ⟨isb1 _ _ _ (rfl) _, (Below.refl _ _).alloc (Nat.le_refl _) _⟩
        · exact fun h => absurd rfl h
        · intro _ ph h1 h2
          cases ph
          all_goals
            intro ev X hT hb hk hf
            have e0 : ev (.tmp 1) = .pointer (some ⟨w.heap.size, 0, Option.none⟩) := hk.1
            exact OpOk.run (v := .pointer (some ⟨w.heap.size, 2, Option.none⟩)) (W' := X) (by simp [execOp, e0, hb.1, go_sem]) ⟨rfl, Stay.refl _⟩
        · intro _ ph h1 h2
          cases ph
          all_goals
            intro ev X hT hb hk hf
            have e0 : ev (.tmp 108) = .pointer (some ⟨w.heap.size, 2, Option.none⟩) := hf.1
            have cW := EIv.cell hT 2 rfl
            exact OpOk.run (v := u32v sz) (W' := X) (by simp [execOp, e0, cW, go_sem]) ⟨rfl, Stay.refl _⟩
        · intro _ ph h1 h2
          cases ph
          all_goals
            intro ev X hT hb hk hf
            have e0 : ev (.tmp 109) = u32v sz := hf.1
            exact OpOk.run (v := .bool false) (W' := X) (by simp [execOp, e0, hb.1, S0, go_sem]) ⟨rfl, Stay.refl _⟩
        · intro _ ph h1 h2
          obtain rfl : ph = true := h1 (by kernel_rfl)
          intro ev X hT hb hk hf
          have e0 : ev (.tmp 110) = .bool false := hf.1
          exact OpOk.move rfl e0 ⟨rfl, Stay.refl _⟩
        · intro _ ph h1 h2
          cases ph
          all_goals
            intro ev X hT hb hk hf
            exact ⟨false, hf.1, fun h => (nomatch h), fun _ => rfl⟩
        · intro _ ph h1 h2
          cases ph
          all_goals
            intro ev X hT hb hk hf
            exact ⟨false, hf.2.1, fun h => (nomatch h), fun _ => rfl⟩
        · intro _ ph h1 h2
          cases ph
          all_goals
            intro ev X hT hb hk hf
            exact ⟨false, hf.2.1, fun h => (nomatch h), fun _ => rfl⟩
        · intro _ ph h1 h2
          cases ph
          all_goals
            intro ev X hT hb hk hf
            exact ⟨false, hf.2.1, fun h => (nomatch h), fun _ => rfl⟩
        · intro _ ph h1 h2
          cases ph
          all_goals
            intro ev X hT hb hk hf
            have e0 : ev (.tmp 111) = .bool false := hf.1
            have e1 : ev (.tmp 115) = undef := hf.2.1
            exact OpOk.run (v := .bool false) (W' := X) (by simp [execOp, e0, e1, hb, hb.1, hb.2.1, hb.2.2, go_sem]) ⟨rfl, Stay.refl _⟩
        · intro _ ph h1 h2
          obtain rfl : ph = true := h1 (by kernel_rfl)
          intro ev X hT hb hk hf
          have e0 := hf.1
          exact OpOk.assign rfl rfl ⟨e0, Stay.refl _⟩
        · intro _ ph h1 h2
          obtain rfl : ph = true := h1 (by kernel_rfl)
          intro ev X hT hb hk hf
          have e0 : ev (.tmp 116) = .bool false := hf.1
          exact OpOk.assign rfl e0 ⟨rfl, Stay.refl _⟩
      case rest =>
        intro X hT
        rintro _ rfl _ rfl _ rfl _ - _ - _ rfl _ rfl _ rfl _ rfl _ rfl _ rfl _ rfl _ rfl _ rfl vo ho _ rfl
        obtain ⟨xa, xc, rfl, _, _, _, _⟩ := own_value ho
        have HO := hide ho
        have HST := hide hT
        clear ho hT
        go_wp2
        refine Rest.done ?_
        go_wp2_with fail
        go_ret2
        exact ⟨_, rfl, (fun h => by cases h), all_below HST.out.1.right HST.out.2⟩
  · by_cases ps : sz = 0
    · by_cases pd : dl.length = 0
      · have hk2 : decide (sz = 0 ∧ dl.length = 0) = true := decide_eq_true ⟨ps, pd⟩
        rw [hk2]
        clear hk2
        have T0 : (((ty.toNat : Nat) : Int) == 0) = false := by rw [beq_eq_false_iff_ne]; intro e; exact pt (UInt8.toNat_inj.1 (by simpa using e))
        have S0 : ((sz : Int) == 0) = true := by rw [ps]; rfl
        have D0 : ((dl.length : Int) == 0) = true := by rw [pd]; rfl
        have DG : decide (0 < dl.length) = false := decide_eq_false (by omega)
        have EB := hide (hEB pd)
        clear hEB
        clear pt
        clear ps
        clear pd
        go_enter Try.func23, Try.ntmps23
        go_wp2_with fail
        refine wp_region_app 4 [isV (.slice (some ⟨w.heap.size + 1, 0, Option.none⟩) 1 1), isV (.pointer (some ⟨w.heap.size, 1, Option.none⟩)), isV (vb ty), (fun v X => IsBytes X v [ty]), (fun _ _ => True), isV (.pointer (some ⟨w.heap.size, 2, Option.none⟩)), isV (u32v sz), isV (.bool true), isV (.bool true), isV (.pointer (some ⟨w.heap.size, 3, Option.none⟩)), isV (.slice da dl.length dc), isV (.int .i64 ((dl.length : Nat) : Int)), isV (.bool true), isV (.bool true), (fun _ _ => False), isV (.bool true)]
          [isV (.slice (some ⟨w.heap.size + 1, 0, Option.none⟩) 1 1), isV (.pointer (some ⟨w.heap.size, 1, Option.none⟩)), isV (vb ty), (fun _ _ => True), (fun v X => (ownR v [9, ty] * (EF w ⟨9, ty, sz, dl⟩ (.slice da dl.length dc))).on X), isV (.pointer (some ⟨w.heap.size, 2, Option.none⟩)), isV (u32v sz), isV (.bool true), isV (.bool true), isV (.pointer (some ⟨w.heap.size, 3, Option.none⟩)), isV (.slice da dl.length dc), isV (.int .i64 ((dl.length : Nat) : Int)), isV (.bool true), isV (.bool true), (fun v X => (ownR v [9, ty] * (EF w ⟨9, ty, sz, dl⟩ (.slice da dl.length dc))).on X), isV (.bool true)] _ rfl (by kernel_rfl) (by kernel_rfl) rfl (by decide) (EIv (ownR (.slice (some ⟨w.heap.size + 1, 0, Option.none⟩) 1 1) [9]) w ⟨9, ty, sz, dl⟩ (.slice da dl.length dc)) ⟨SP.on.drew H1.out, Str.drew HS1.out⟩ EIv.stay ?keep ?keep2 ?store ?todo ?rest
        case keep => exact ⟨Keep.isV _, Keep.isV _, Keep.isV _, fun _ _ _ h k => IsBytes.below h k, fun _ _ _ h _ => h, Keep.isV _, Keep.isV _, Keep.isV _, Keep.isV _, Keep.isV _, Keep.isV _, Keep.isV _, Keep.isV _, Keep.isV _, fun _ _ _ h _ => h, Keep.isV _, trivial⟩
        case keep2 => exact ⟨Keep.isV _, Keep.isV _, Keep.isV _, fun _ _ _ h _ => h, fun _ _ _ h k => SP.on.below h k, Keep.isV _, Keep.isV _, Keep.isV _, Keep.isV _, Keep.isV _, Keep.isV _, Keep.isV _, Keep.isV _, Keep.isV _, fun _ _ _ h k => SP.on.below h k, Keep.isV _, trivial⟩
        case store =>
          intro ev X hT hb hk hf
          have e0 : ev (.tmp 103) = .slice (some ⟨w.heap.size + 1, 0, Option.none⟩) 1 1 := hf.1
          have e1 : IsBytes X (ev (.tmp 106)) [ty] := hf.2.1
          refine OpOk.append_bytes (F := (EF w ⟨9, ty, sz, dl⟩ (.slice da dl.length dc))) _ _ _ rfl 5 hu infoR _ [9] [ty] e0 hT.1 e1 (by simp) ?_
          intro v' X2 ho hs
          simp only [List.cons_append, List.nil_append] at ho
          refine ⟨⟨ho.right, hT.2.trans hs⟩, ho, ?_⟩
          intro i his hv
          match i, his, hv with
          | 0, _, hv => exact hv
          | 1, _, hv => exact hv
          | 2, _, hv => exact hv
          | 3, _, _ => exact trivial
          | 4, h, _ => exact absurd rfl h
          | 5, _, hv => exact hv
          | 6, _, hv => exact hv
          | 7, _, hv => exact hv
          | 8, _, hv => exact hv
          | 9, _, hv => exact hv
          | 10, _, hv => exact hv
          | 11, _, hv => exact hv
          | 12, _, hv => exact hv
          | 13, _, hv => exact hv
          | 14, _, hv => exact hv.elim
          | 15, _, hv => exact hv
          | n + 16, _, _ => exact trivial
        case todo =>
          refine ⟨?_, ?_, ?_, ?_, ?_, ?_, ?_, ?_, ?_, ?_, ?_, ?_, ?_, ?_, ?_, ?_, trivial⟩
          · intro _ ph h1 h2
            obtain rfl : ph = false := h2 (by kernel_rfl)
            intro ev X hT hb hk hf
            have e0 : ev (.tmp 4) = .slice (some ⟨w.heap.size + 1, 0, Option.none⟩) 1 1 := hk.1
            exact OpOk.move rfl e0 ⟨rfl, Stay.refl _⟩
          · intro _ ph h1 h2
            cases ph
            all_goals
              intro ev X hT hb hk hf
              have e0 : ev (.tmp 1) = .pointer (some ⟨w.heap.size, 0, Option.none⟩) := hk.1
              exact OpOk.run (v := .pointer (some ⟨w.heap.size, 1, Option.none⟩)) (W' := X) (by simp [execOp, e0, hb.1, go_sem]) ⟨rfl, Stay.refl _⟩
          · intro _ ph h1 h2
            cases ph
            all_goals
              intro ev X hT hb hk hf
              have e0 : ev (.tmp 104) = .pointer (some ⟨w.heap.size, 1, Option.none⟩) := hf.1
              have cW := EIv.cell hT 1 rfl
              exact OpOk.run (v := vb ty) (W' := X) (by simp [execOp, e0, cW, go_sem]) ⟨rfl, Stay.refl _⟩
          · intro _ ph h1 h2
            obtain rfl : ph = false := h2 (by kernel_rfl)
            intro ev X hT hb hk hf
            have e0 : ev (.tmp 105) = vb ty := hf.1
            exact OpOk.run (v := .slice (some ⟨X.heap.size, 0, Option.none⟩) 1 1) (W' := X.alloc (.cells #[vb ty] 5)) (by simp [execOp, e0, go_sem]) ⟨isb1 _ _ _ (rfl) _, (Below.refl _ _).alloc (Nat.le_refl _) _⟩
          · exact fun h => absurd rfl h
          · intro _ ph h1 h2
            cases ph
            all_goals
              intro ev X hT hb hk hf
              have e0 : ev (.tmp 1) = .pointer (some ⟨w.heap.size, 0, Option.none⟩) := hk.1
              exact OpOk.run (v := .pointer (some ⟨w.heap.size, 2, Option.none⟩)) (W' := X) (by simp [execOp, e0, hb.1, go_sem]) ⟨rfl, Stay.refl _⟩
          · intro _ ph h1 h2
            cases ph
            all_goals
              intro ev X hT hb hk hf
              have e0 : ev (.tmp 108) = .pointer (some ⟨w.heap.size, 2, Option.none⟩) := hf.1
              have cW := EIv.cell hT 2 rfl
              exact OpOk.run (v := u32v sz) (W' := X) (by simp [execOp, e0, cW, go_sem]) ⟨rfl, Stay.refl _⟩
          · intro _ ph h1 h2
            cases ph
            all_goals
              intro ev X hT hb hk hf
              have e0 : ev (.tmp 109) = u32v sz := hf.1
              exact OpOk.run (v := .bool true) (W' := X) (by simp [execOp, e0, hb.1, S0, go_sem]) ⟨rfl, Stay.refl _⟩
          · intro _ ph h1 h2
            obtain rfl : ph = true := h1 (by kernel_rfl)
            intro ev X hT hb hk hf
            have e0 : ev (.tmp 110) = .bool true := hf.1
            exact OpOk.move rfl e0 ⟨rfl, Stay.refl _⟩
          · intro _ ph h1 h2
            cases ph
            all_goals
              intro ev X hT hb hk hf
              refine ⟨true, hf.1, fun _ => ?_, fun h => (h rfl).elim⟩
              have e0 : ev (.tmp 1) = .pointer (some ⟨w.heap.size, 0, Option.none⟩) := hk.1
              exact OpOk.run (v := .pointer (some ⟨w.heap.size, 3, Option.none⟩)) (W' := X) (by simp [execOp, e0, hb.1, go_sem]) ⟨rfl, Stay.refl _⟩
          · intro _ ph h1 h2
            cases ph
            all_goals
              intro ev X hT hb hk hf
              refine ⟨true, hf.2.1, fun _ => ?_, fun h => (h rfl).elim⟩
              have e0 : ev (.tmp 112) = .pointer (some ⟨w.heap.size, 3, Option.none⟩) := hf.1
              have cW := EIv.cell hT 3 rfl
              exact OpOk.run (v := .slice da dl.length dc) (W' := X) (by simp [execOp, e0, cW, go_sem]) ⟨rfl, Stay.refl _⟩
          · intro _ ph h1 h2
            cases ph
            all_goals
              intro ev X hT hb hk hf
              refine ⟨true, hf.2.1, fun _ => ?_, fun h => (h rfl).elim⟩
              have e0 : ev (.tmp 113) = .slice da dl.length dc := hf.1
              exact OpOk.run (v := .int .i64 ((dl.length : Nat) : Int)) (W' := X) (by simp [execOp, e0, hb.1, go_sem]) ⟨rfl, Stay.refl _⟩
          · intro _ ph h1 h2
            cases ph
            all_goals
              intro ev X hT hb hk hf
              refine ⟨true, hf.2.1, fun _ => ?_, fun h => (h rfl).elim⟩
              have e0 : ev (.tmp 114) = .int .i64 ((dl.length : Nat) : Int) := hf.1
              exact OpOk.run (v := .bool true) (W' := X) (by simp [execOp, e0, hb.1, D0, go_sem]) ⟨rfl, Stay.refl _⟩
          · intro _ ph h1 h2
            cases ph
            all_goals
              intro ev X hT hb hk hf
              have e0 : ev (.tmp 111) = .bool true := hf.1
              have e1 : ev (.tmp 115) = .bool true := hf.2.1
              exact OpOk.run (v := .bool true) (W' := X) (by simp [execOp, e0, e1, hb, hb.1, hb.2.1, hb.2.2, go_sem]) ⟨rfl, Stay.refl _⟩
          · intro _ ph h1 h2
            obtain rfl : ph = true := h1 (by kernel_rfl)
            intro ev X hT hb hk hf
            have e0 := hf.1
            exact OpOk.assign rfl rfl ⟨e0, Stay.refl _⟩
          · intro _ ph h1 h2
            obtain rfl : ph = true := h1 (by kernel_rfl)
            intro ev X hT hb hk hf
            have e0 : ev (.tmp 116) = .bool true := hf.1
            exact OpOk.assign rfl e0 ⟨rfl, Stay.refl _⟩
        case rest =>
          intro X hT
          rintro _ rfl _ rfl _ rfl _ - _ - _ rfl _ rfl _ rfl _ rfl _ rfl _ rfl _ rfl _ rfl _ rfl vo ho _ rfl
          obtain ⟨xa, xc, rfl, _, _, _, _⟩ := own_value ho
          have HO := hide ho
          have HST := hide hT
          clear ho hT
          go_wp2
          refine Rest.done ?_
          go_wp2_with fail
          go_ret2
          exact ⟨_, rfl, fun _ => by rw [EB.out]; exact own_bytes HO.out, all_below HST.out.1.right HST.out.2⟩
      · have hk2 : decide (sz = 0 ∧ dl.length = 0) = false := decide_eq_false (fun h => pd h.2)
        rw [hk2]
        clear hk2
        have T0 : (((ty.toNat : Nat) : Int) == 0) = false := by rw [beq_eq_false_iff_ne]; intro e; exact pt (UInt8.toNat_inj.1 (by simpa using e))
        have S0 : ((sz : Int) == 0) = true := by rw [ps]; rfl
        have D0 : ((dl.length : Int) == 0) = false := by rw [beq_eq_false_iff_ne]; omega
        have DG : decide (0 < dl.length) = true := decide_eq_true (by omega)
        clear hEB
        clear pt
        clear ps
        clear pd
        go_enter Try.func23, Try.ntmps23
        go_wp2_with fail
        refine wp_region_app 4 [isV (.slice (some ⟨w.heap.size + 1, 0, Option.none⟩) 1 1), isV (.pointer (some ⟨w.heap.size, 1, Option.none⟩)), isV (vb ty), (fun v X => IsBytes X v [ty]), (fun _ _ => True), isV (.pointer (some ⟨w.heap.size, 2, Option.none⟩)), isV (u32v sz), isV (.bool true), isV (.bool true), isV (.pointer (some ⟨w.heap.size, 3, Option.none⟩)), isV (.slice da dl.length dc), isV (.int .i64 ((dl.length : Nat) : Int)), isV (.bool false), isV (.bool false), (fun _ _ => False), isV (.bool false)]
          [isV (.slice (some ⟨w.heap.size + 1, 0, Option.none⟩) 1 1), isV (.pointer (some ⟨w.heap.size, 1, Option.none⟩)), isV (vb ty), (fun _ _ => True), (fun v X => (ownR v [9, ty] * (EF w ⟨9, ty, sz, dl⟩ (.slice da dl.length dc))).on X), isV (.pointer (some ⟨w.heap.size, 2, Option.none⟩)), isV (u32v sz), isV (.bool true), isV (.bool true), isV (.pointer (some ⟨w.heap.size, 3, Option.none⟩)), isV (.slice da dl.length dc), isV (.int .i64 ((dl.length : Nat) : Int)), isV (.bool false), isV (.bool false), (fun v X => (ownR v [9, ty] * (EF w ⟨9, ty, sz, dl⟩ (.slice da dl.length dc))).on X), isV (.bool false)] _ rfl (by kernel_rfl) (by kernel_rfl) rfl (by decide) (EIv (ownR (.slice (some ⟨w.heap.size + 1, 0, Option.none⟩) 1 1) [9]) w ⟨9, ty, sz, dl⟩ (.slice da dl.length dc)) ⟨SP.on.drew H1.out, Str.drew HS1.out⟩ EIv.stay ?keep ?keep2 ?store ?todo ?rest
        case keep => exact ⟨Keep.isV _, Keep.isV _, Keep.isV _, fun _ _ _ h k => IsBytes.below h k, fun _ _ _ h _ => h, Keep.isV _, Keep.isV _, Keep.isV _, Keep.isV _, Keep.isV _, Keep.isV _, Keep.isV _, Keep.isV _, Keep.isV _, fun _ _ _ h _ => h, Keep.isV _, trivial⟩
        case keep2 => exact ⟨Keep.isV _, Keep.isV _, Keep.isV _, fun _ _ _ h _ => h, fun _ _ _ h k => SP.on.below h k, Keep.isV _, Keep.isV _, Keep.isV _, Keep.isV _, Keep.isV _, Keep.isV _, Keep.isV _, Keep.isV _, Keep.isV _, fun _ _ _ h k => SP.on.below h k, Keep.isV _, trivial⟩
        case store =>
          intro ev X hT hb hk hf
          have e0 : ev (.tmp 103) = .slice (some ⟨w.heap.size + 1, 0, Option.none⟩) 1 1 := hf.1
          have e1 : IsBytes X (ev (.tmp 106)) [ty] := hf.2.1
          refine OpOk.append_bytes (F := (EF w ⟨9, ty, sz, dl⟩ (.slice da dl.length dc))) _ _ _ rfl 5 hu infoR _ [9] [ty] e0 hT.1 e1 (by simp) ?_
          intro v' X2 ho hs
          simp only [List.cons_append, List.nil_append] at ho
          refine ⟨⟨ho.right, hT.2.trans hs⟩, ho, ?_⟩
          intro i his hv
          match i, his, hv with
          | 0, _, hv => exact hv
          | 1, _, hv => exact hv
          | 2, _, hv => exact hv
          | 3, _, _ => exact trivial
          | 4, h, _ => exact absurd rfl h
          | 5, _, hv => exact hv
          | 6, _, hv => exact hv
          | 7, _, hv => exact hv
          | 8, _, hv => exact hv
          | 9, _, hv => exact hv
          | 10, _, hv => exact hv
          | 11, _, hv => exact hv
          | 12, _, hv => exact hv
          | 13, _, hv => exact hv
          | 14, _, hv => exact hv.elim
          | 15, _, hv => exact hv
          | n + 16, _, _ => exact trivial
        case todo =>
          refine ⟨?_, ?_, ?_, ?_, ?_, ?_, ?_, ?_, ?_, ?_, ?_, ?_, ?_, ?_, ?_, ?_, trivial⟩
          · intro _ ph h1 h2
            obtain rfl : ph = false := h2 (by kernel_rfl)
            intro ev X hT hb hk hf
            have e0 : ev (.tmp 4) = .slice (some ⟨w.heap.size + 1, 0, Option.none⟩) 1 1 := hk.1
            exact OpOk.move rfl e0 ⟨rfl, Stay.refl _⟩
          · intro _ ph h1 h2
            cases ph
            all_goals
              intro ev X hT hb hk hf
              have e0 : ev (.tmp 1) = .pointer (some ⟨w.heap.size, 0, Option.none⟩) := hk.1
              exact OpOk.run (v := .pointer (some ⟨w.heap.size, 1, Option.none⟩)) (W' := X) (by simp [execOp, e0, hb.1, go_sem]) ⟨rfl, Stay.refl _⟩
          · intro _ ph h1 h2
            cases ph
            all_goals
              intro ev X hT hb hk hf
              have e0 : ev (.tmp 104) = .pointer (some ⟨w.heap.size, 1, Option.none⟩) := hf.1
              have cW := EIv.cell hT 1 rfl
              exact OpOk.run (v := vb ty) (W' := X) (by simp [execOp, e0, cW, go_sem]) ⟨rfl, Stay.refl _⟩
          · intro _ ph h1 h2
            obtain rfl : ph = false := h2 (by kernel_rfl)
            intro ev X hT hb hk hf
            have e0 : ev (.tmp 105) = vb ty := hf.1
            exact OpOk.run (v := .slice (some ⟨X.heap.size, 0, Option.none⟩) 1 1) (W' := X.alloc (.cells #[vb ty] 5)) (by simp [execOp, e0, go_sem]) ⟨isb1 _ _ _ (rfl) _, (Below.refl _ _).alloc (Nat.le_refl _) _⟩
          · exact fun h => absurd rfl h
          · intro _ ph h1 h2
            cases ph
            all_goals
              intro ev X hT hb hk hf
              have e0 : ev (.tmp 1) = .pointer (some ⟨w.heap.size, 0, Option.none⟩) := hk.1
              exact OpOk.run (v := .pointer (some ⟨w.heap.size, 2, Option.none⟩)) (W' := X) (by simp [execOp, e0, hb.1, go_sem]) ⟨rfl, Stay.refl _⟩
          · intro _ ph h1 h2
            cases ph
            all_goals
              intro ev X hT hb hk hf
              have e0 : ev (.tmp 108) = .pointer (some ⟨w.heap.size, 2, Option.none⟩) := hf.1
              have cW := EIv.cell hT 2 rfl
              exact OpOk.run (v := u32v sz) (W' := X) (by simp [execOp, e0, cW, go_sem]) ⟨rfl, Stay.refl _⟩
          · intro _ ph h1 h2
            cases ph
            all_goals
              intro ev X hT hb hk hf
              have e0 : ev (.tmp 109) = u32v sz := hf.1
              exact OpOk.run (v := .bool true) (W' := X) (by simp [execOp, e0, hb.1, S0, go_sem]) ⟨rfl, Stay.refl _⟩
          · intro _ ph h1 h2
            obtain rfl : ph = true := h1 (by kernel_rfl)
            intro ev X hT hb hk hf
            have e0 : ev (.tmp 110) = .bool true := hf.1
            exact OpOk.move rfl e0 ⟨rfl, Stay.refl _⟩
          · intro _ ph h1 h2
            cases ph
            all_goals
              intro ev X hT hb hk hf
              refine ⟨true, hf.1, fun _ => ?_, fun h => (h rfl).elim⟩
              have e0 : ev (.tmp 1) = .pointer (some ⟨w.heap.size, 0, Option.none⟩) := hk.1
              exact OpOk.run (v := .pointer (some ⟨w.heap.size, 3, Option.none⟩)) (W' := X) (by simp [execOp, e0, hb.1, go_sem]) ⟨rfl, Stay.refl _⟩
          · intro _ ph h1 h2
            cases ph
            all_goals
              intro ev X hT hb hk hf
              refine ⟨true, hf.2.1, fun _ => ?_, fun h => (h rfl).elim⟩
              have e0 : ev (.tmp 112) = .pointer (some ⟨w.heap.size, 3, Option.none⟩) := hf.1
              have cW := EIv.cell hT 3 rfl
              exact OpOk.run (v := .slice da dl.length dc) (W' := X) (by simp [execOp, e0, cW, go_sem]) ⟨rfl, Stay.refl _⟩
          · intro _ ph h1 h2
            cases ph
            all_goals
              intro ev X hT hb hk hf
              refine ⟨true, hf.2.1, fun _ => ?_, fun h => (h rfl).elim⟩
              have e0 : ev (.tmp 113) = .slice da dl.length dc := hf.1
              exact OpOk.run (v := .int .i64 ((dl.length : Nat) : Int)) (W' := X) (by simp [execOp, e0, hb.1, go_sem]) ⟨rfl, Stay.refl _⟩
          · intro _ ph h1 h2
            cases ph
            all_goals
              intro ev X hT hb hk hf
              refine ⟨true, hf.2.1, fun _ => ?_, fun h => (h rfl).elim⟩
              have e0 : ev (.tmp 114) = .int .i64 ((dl.length : Nat) : Int) := hf.1
              exact OpOk.run (v := .bool false) (W' := X) (by simp [execOp, e0, hb.1, D0, go_sem]) ⟨rfl, Stay.refl _⟩
          · intro _ ph h1 h2
            cases ph
            all_goals
              intro ev X hT hb hk hf
              have e0 : ev (.tmp 111) = .bool true := hf.1
              have e1 : ev (.tmp 115) = .bool false := hf.2.1
              exact OpOk.run (v := .bool false) (W' := X) (by simp [execOp, e0, e1, hb, hb.1, hb.2.1, hb.2.2, go_sem]) ⟨rfl, Stay.refl _⟩
          · intro _ ph h1 h2
            obtain rfl : ph = true := h1 (by kernel_rfl)
            intro ev X hT hb hk hf
            have e0 := hf.1
            exact OpOk.assign rfl rfl ⟨e0, Stay.refl _⟩
          · intro _ ph h1 h2
            obtain rfl : ph = true := h1 (by kernel_rfl)
            intro ev X hT hb hk hf
            have e0 : ev (.tmp 116) = .bool false := hf.1
            exact OpOk.assign rfl e0 ⟨rfl, Stay.refl _⟩
        case rest =>
          intro X hT
          rintro _ rfl _ rfl _ rfl _ - _ - _ rfl _ rfl _ rfl _ rfl _ rfl _ rfl _ rfl _ rfl _ rfl vo ho _ rfl
          obtain ⟨xa, xc, rfl, _, _, _, _⟩ := own_value ho
          have HO := hide ho
          have HST := hide hT
          clear ho hT
          go_wp2
          refine Rest.done ?_
          go_wp2_with fail
          go_ret2
          exact ⟨_, rfl, (fun h => by cases h), all_below HST.out.1.right HST.out.2⟩
    · have hk2 : decide (sz = 0 ∧ dl.length = 0) = false := decide_eq_false (fun h => ps h.1)
      rw [hk2]
      clear hk2
      have T0 : (((ty.toNat : Nat) : Int) == 0) = false := by rw [beq_eq_false_iff_ne]; intro e; exact pt (UInt8.toNat_inj.1 (by simpa using e))
      have S0 : ((sz : Int) == 0) = false := by rw [beq_eq_false_iff_ne]; omega
      clear hEB
      clear pt
      clear ps
      go_enter Try.func23, Try.ntmps23
      go_wp2_with fail
      refine wp_region_app 4 [isV (.slice (some ⟨w.heap.size + 1, 0, Option.none⟩) 1 1), isV (.pointer (some ⟨w.heap.size, 1, Option.none⟩)), isV (vb ty), (fun v X => IsBytes X v [ty]), (fun _ _ => True), isV (.pointer (some ⟨w.heap.size, 2, Option.none⟩)), isV (u32v sz), isV (.bool false), isV (.bool false), isV (undef), isV (undef), isV (undef), isV (undef), isV (.bool false), (fun _ _ => False), isV (.bool false)]
        [isV (.slice (some ⟨w.heap.size + 1, 0, Option.none⟩) 1 1), isV (.pointer (some ⟨w.heap.size, 1, Option.none⟩)), isV (vb ty), (fun _ _ => True), (fun v X => (ownR v [9, ty] * (EF w ⟨9, ty, sz, dl⟩ (.slice da dl.length dc))).on X), isV (.pointer (some ⟨w.heap.size, 2, Option.none⟩)), isV (u32v sz), isV (.bool false), isV (.bool false), isV (undef), isV (undef), isV (undef), isV (undef), isV (.bool false), (fun v X => (ownR v [9, ty] * (EF w ⟨9, ty, sz, dl⟩ (.slice da dl.length dc))).on X), isV (.bool false)] _ rfl (by kernel_rfl) (by kernel_rfl) rfl (by decide) (EIv (ownR (.slice (some ⟨w.heap.size + 1, 0, Option.none⟩) 1 1) [9]) w ⟨9, ty, sz, dl⟩ (.slice da dl.length dc)) ⟨SP.on.drew H1.out, Str.drew HS1.out⟩ EIv.stay ?keep ?keep2 ?store ?todo ?rest
      case keep => exact ⟨Keep.isV _, Keep.isV _, Keep.isV _, fun _ _ _ h k => IsBytes.below h k, fun _ _ _ h _ => h, Keep.isV _, Keep.isV _, Keep.isV _, Keep.isV _, Keep.isV _, Keep.isV _, Keep.isV _, Keep.isV _, Keep.isV _, fun _ _ _ h _ => h, Keep.isV _, trivial⟩
      case keep2 => exact ⟨Keep.isV _, Keep.isV _, Keep.isV _, fun _ _ _ h _ => h, fun _ _ _ h k => SP.on.below h k, Keep.isV _, Keep.isV _, Keep.isV _, Keep.isV _, Keep.isV _, Keep.isV _, Keep.isV _, Keep.isV _, Keep.isV _, fun _ _ _ h k => SP.on.below h k, Keep.isV _, trivial⟩
      case store =>
        intro ev X hT hb hk hf
        have e0 : ev (.tmp 103) = .slice (some ⟨w.heap.size + 1, 0, Option.none⟩) 1 1 := hf.1
        have e1 : IsBytes X (ev (.tmp 106)) [ty] := hf.2.1
        refine OpOk.append_bytes (F := (EF w ⟨9, ty, sz, dl⟩ (.slice da dl.length dc))) _ _ _ rfl 5 hu infoR _ [9] [ty] e0 hT.1 e1 (by simp) ?_
        intro v' X2 ho hs
        simp only [List.cons_append, List.nil_append] at ho
        refine ⟨⟨ho.right, hT.2.trans hs⟩, ho, ?_⟩
        intro i his hv
        match i, his, hv with
        | 0, _, hv => exact hv
        | 1, _, hv => exact hv
        | 2, _, hv => exact hv
        | 3, _, _ => exact trivial
        | 4, h, _ => exact absurd rfl h
        | 5, _, hv => exact hv
        | 6, _, hv => exact hv
        | 7, _, hv => exact hv
        | 8, _, hv => exact hv
        | 9, _, hv => exact hv
        | 10, _, hv => exact hv
        | 11, _, hv => exact hv
        | 12, _, hv => exact hv
        | 13, _, hv => exact hv
        | 14, _, hv => exact hv.elim
        | 15, _, hv => exact hv
        | n + 16, _, _ => exact trivial
      case todo =>
        refine ⟨?_, ?_, ?_, ?_, ?_, ?_, ?_, ?_, ?_, ?_, ?_, ?_, ?_, ?_, ?_, ?_, trivial⟩
        · intro _ ph h1 h2
          obtain rfl : ph = false := h2 (by kernel_rfl)
          intro ev X hT hb hk hf
          have e0 : ev (.tmp 4) = .slice (some ⟨w.heap.size + 1, 0, Option.none⟩) 1 1 := hk.1
          exact OpOk.move rfl e0 ⟨rfl, Stay.refl _⟩
        · intro _ ph h1 h2
          cases ph
          all_goals
            intro ev X hT hb hk hf
            have e0 : ev (.tmp 1) = .pointer (some ⟨w.heap.size, 0, Option.none⟩) := hk.1
            exact OpOk.run (v := .pointer (some ⟨w.heap.size, 1, Option.none⟩)) (W' := X) (by simp [execOp, e0, hb.1, go_sem]) ⟨rfl, Stay.refl _⟩
        · intro _ ph h1 h2
          cases ph
          all_goals
            intro ev X hT hb hk hf
            have e0 : ev (.tmp 104) = .pointer (some ⟨w.heap.size, 1, Option.none⟩) := hf.1
            have cW := EIv.cell hT 1 rfl
            exact OpOk.run (v := vb ty) (W' := X) (by simp [execOp, e0, cW, go_sem]) ⟨rfl, Stay.refl _⟩
        · intro _ ph h1 h2
          obtain rfl : ph = false := h2 (by kernel_rfl)
          intro ev X hT hb hk hf
          have e0 : ev (.tmp 105) = vb ty := hf.1
          exact OpOk.run (v := .slice (some ⟨X.heap.size, 0, Option.none⟩) 1 1) (W' := X.alloc (.cells #[vb ty] 5)) (by simp [execOp, e0, go_sem]) ⟨isb1 _ _ _ (rfl) _, (Below.refl _ _).alloc (Nat.le_refl _) _⟩
        · exact fun h => absurd rfl h
        · intro _ ph h1 h2
          cases ph
          all_goals
            intro ev X hT hb hk hf
            have e0 : ev (.tmp 1) = .pointer (some ⟨w.heap.size, 0, Option.none⟩) := hk.1
            exact OpOk.run (v := .pointer (some ⟨w.heap.size, 2, Option.none⟩)) (W' := X) (by simp [execOp, e0, hb.1, go_sem]) ⟨rfl, Stay.refl _⟩
        · intro _ ph h1 h2
          cases ph
          all_goals
            intro ev X hT hb hk hf
            have e0 : ev (.tmp 108) = .pointer (some ⟨w.heap.size, 2, Option.none⟩) := hf.1
            have cW := EIv.cell hT 2 rfl
            exact OpOk.run (v := u32v sz) (W' := X) (by simp [execOp, e0, cW, go_sem]) ⟨rfl, Stay.refl _⟩
        · intro _ ph h1 h2
          cases ph
          all_goals
            intro ev X hT hb hk hf
            have e0 : ev (.tmp 109) = u32v sz := hf.1
            exact OpOk.run (v := .bool false) (W' := X) (by simp [execOp, e0, hb.1, S0, go_sem]) ⟨rfl, Stay.refl _⟩
        · intro _ ph h1 h2
          obtain rfl : ph = true := h1 (by kernel_rfl)
          intro ev X hT hb hk hf
          have e0 : ev (.tmp 110) = .bool false := hf.1
          exact OpOk.move rfl e0 ⟨rfl, Stay.refl _⟩
        · intro _ ph h1 h2
          cases ph
          all_goals
            intro ev X hT hb hk hf
            exact ⟨false, hf.1, fun h => (nomatch h), fun _ => rfl⟩
        · intro _ ph h1 h2
          cases ph
          all_goals
            intro ev X hT hb hk hf
            exact ⟨false, hf.2.1, fun h => (nomatch h), fun _ => rfl⟩
        · intro _ ph h1 h2
          cases ph
          all_goals
            intro ev X hT hb hk hf
            exact ⟨false, hf.2.1, fun h => (nomatch h), fun _ => rfl⟩
        · intro _ ph h1 h2
          cases ph
          all_goals
            intro ev X hT hb hk hf
            exact ⟨false, hf.2.1, fun h => (nomatch h), fun _ => rfl⟩
        · intro _ ph h1 h2
          cases ph
          all_goals
            intro ev X hT hb hk hf
            have e0 : ev (.tmp 111) = .bool false := hf.1
            have e1 : ev (.tmp 115) = undef := hf.2.1
            exact OpOk.run (v := .bool false) (W' := X) (by simp [execOp, e0, e1, hb, hb.1, hb.2.1, hb.2.2, go_sem]) ⟨rfl, Stay.refl _⟩
        · intro _ ph h1 h2
          obtain rfl : ph = true := h1 (by kernel_rfl)
          intro ev X hT hb hk hf
          have e0 := hf.1
          exact OpOk.assign rfl rfl ⟨e0, Stay.refl _⟩
        · intro _ ph h1 h2
          obtain rfl : ph = true := h1 (by kernel_rfl)
          intro ev X hT hb hk hf
          have e0 : ev (.tmp 116) = .bool false := hf.1
          exact OpOk.assign rfl e0 ⟨rfl, Stay.refl _⟩
      case rest =>
        intro X hT
        rintro _ rfl _ rfl _ rfl _ - _ - _ rfl _ rfl _ rfl _ rfl _ rfl _ rfl _ rfl _ rfl _ rfl vo ho _ rfl
        obtain ⟨xa, xc, rfl, _, _, _, _⟩ := own_value ho
        have HO := hide ho
        have HST := hide hT
        clear ho hT
        go_wp2
        refine Rest.done ?_
        go_wp2_with fail
        go_ret2
        exact ⟨_, rfl, (fun h => by cases h), all_below HST.out.1.right HST.out.2⟩
end Go.Proofs.Ytdieaegajahdpaa
